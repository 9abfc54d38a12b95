"""Chains of polynomials, and what they tell of real roots.

A chain is reckoned with as lists of whole numbers, each standing for a polynomial that is so many times,
above 0, the chain's own: only signs are read from it.
"""

from momentwright.errors import NoPolynomial
from momentwright.fractions import is_less, ratio
from momentwright.polynomials import cleared, divided, slope
from momentwright.wholes import (
    lowered, sign_of, wholes_at, wholes_multiplied, wholes_parted, wholes_rests, wholes_slope,
)


def refuse_nought(f):
    """NoPolynomial where f is nought."""
    if not f:
        raise NoPolynomial("nought has no chain and no roots to tell")


def chain(f):
    """The list of f, its slope, and so on: each next one the rest of the two ahead of it, its signs turned."""
    refuse_nought(f)
    wholes, bottom = cleared(f)
    told = [list(f)]
    if len(f) > 1:
        told.append(slope(f))
    # How many times the lists of whole numbers the last two polynomials are.
    former = latter = (1, bottom)
    for rest, quotient, top, scale in wholes_rests(wholes, wholes_slope(wholes)):
        former, latter = latter, ratio(-former[0] * top, former[1] * scale)
        told.append(divided([latter[0] * whole for whole in rest], latter[1]))
    return told


def signed_chain(one, other):
    """The chain that begins with two lists, the latter of lesser degree and perhaps empty."""
    told = [one, other] if other else [one]
    former = latter = 1
    for rest, quotient, top, bottom in wholes_rests(one, other):
        former, latter = latter, -former * sign_of(top) * sign_of(bottom)
        told.append([latter * whole for whole in rest])
    return told


def parted_chain(lists):
    """The chain divided by its last list, which all of it share: so at no number two neighbours are 0."""
    last = lowered(lists[-1])
    return [wholes_parted(one, last)[0] for one in lists]


def counting_chain(f):
    """The chain of f that counts its unlike real roots; its first list has these roots, each once."""
    wholes = lowered(cleared(f)[0])
    return parted_chain(signed_chain(wholes, lowered(wholes_slope(wholes))))


def leaning_chain(wholes, inclines, g):
    """The chain that counts the roots of wholes by the sign of g there.

    The inclines are a list that has the slope's sign at each of these roots.
    """
    rest, scale = wholes_parted(wholes_multiplied(inclines, g), wholes)[1:]
    return signed_chain(wholes, [sign_of(scale) * whole for whole in lowered(rest)])


def signs_of(lists, top, bottom):
    """The signs of the lists at top divided by bottom."""
    return [sign_of(wholes_at(one, top, bottom)[0]) for one in lists]


def signs_far(lists, side):
    """The signs of the lists beyond all roots, below them where side is -1, above them where it is 1."""
    return [sign_of(one[-1]) if len(one) & 1 else side * sign_of(one[-1]) for one in lists]


def changes(signs):
    """How often a sign is followed by its opposite, those that are 0 left out."""
    told = 0
    last = 0
    for sign in signs:
        if sign != 0:
            if sign == -last:
                told += 1
            last = sign
    return told


def count_between(lists, low, high):
    """How many roots of the first list of a counting chain are greater than low and at most high."""
    lows = signs_far(lists, -1) if low is None else signs_of(lists, low[0], low[1])
    highs = signs_far(lists, 1) if high is None else signs_of(lists, high[0], high[1])
    return changes(lows) - changes(highs)


def how_many(f, low, high):
    """How many unlike real roots of f are greater than low and at most high; None bars nothing."""
    refuse_nought(f)
    if low is not None and high is not None and not is_less(low, high):
        return 0
    return count_between(counting_chain(f), low, high)


def balance(f, g):
    """How many more unlike real roots of f there are where g is above 0 than such where it is below."""
    wholes = cleared(f)[0]
    lists = leaning_chain(wholes, wholes_slope(wholes), cleared(g)[0])
    return changes(signs_far(lists, -1)) - changes(signs_far(lists, 1))


def root_bound(wholes):
    """A power of 2 that is greater than all roots, their signs left out."""
    bits = wholes[-1].bit_length()
    exponent = 0
    for k in range(1, len(wholes)):
        whole = wholes[-1 - k]
        if whole != 0:
            # No root is more than twice the greatest of the k-th roots of these quotients.
            exponent = max(exponent, 1 - (bits - whole.bit_length() - 1) // k)
    return 1 << exponent


def places(lists):
    """For each root of the first list of a counting chain, rising, a tuple (low, high, bottom, sign).

    Divided by bottom, low is less than the root and high at least the root, no other root is between
    them or at high; sign is that of the first list right above low.
    """
    bound = root_bound(lists[0])
    told = []
    waiting = [(-bound, bound, 1, signs_far(lists, -1), signs_far(lists, 1))]
    while waiting:
        low, high, bottom, lows, highs = waiting.pop()
        many = changes(lows) - changes(highs)
        if many == 1:
            # Where the first list is 0 the second is not, and has the sign that the first has right above.
            told.append((low, high, bottom, lows[0] if lows[0] != 0 else lows[1]))
        elif many > 1:
            middle = signs_of(lists, low + high, 2 * bottom)
            # The lower half goes on top, so that the roots are told rising.
            waiting.append((low + high, 2 * high, 2 * bottom, middle, highs))
            waiting.append((2 * low, low + high, 2 * bottom, lows, middle))
    return told


def sign_there(lists, g, place):
    """The sign of g at the root in a place, by the leaning chain of the roots and g, parted."""
    low, high, bottom, sign = place
    lows = signs_of(lists, low, bottom)
    if lows[0] == 0:
        # Right above a root the first list has the second one's sign, turned where g is below 0.
        lows[0] = lows[1] * sign_of(wholes_at(g, low, bottom)[0])
    return changes(lows) - changes(signs_of(lists, high, bottom))


def signs_at(f, g):
    """The sign of the number of g at each unlike real root of f, rising: 1, 0 or -1."""
    refuse_nought(f)
    counting = counting_chain(f)
    wholes = cleared(g)[0]
    lists = parted_chain(leaning_chain(counting[0], counting[1] if len(counting) > 1 else [], wholes))
    told = []
    for place in places(counting):
        low, high, bottom, sign = place
        if wholes_at(counting[0], high, bottom)[0] == 0:
            told.append(sign_of(wholes_at(wholes, high, bottom)[0]))
        else:
            told.append(sign_there(lists, wholes, place))
    return told
