"""Stretches: where the real roots of a polynomial lie, as narrow as is asked for; and roots that are fractions."""

from momentwright.chains import count_between, counting_chain, places, refuse_nought, root_bound
from momentwright.fractions import is_fraction, is_less, minus, ratio
from momentwright.wholes import greatest_divisor, sign_of, wholes_at, wholes_slope


def halved(wholes, place):
    """That half of a place in which its root is."""
    low, high, bottom, sign = place
    if sign_of(wholes_at(wholes, low + high, 2 * bottom)[0]) == sign:
        return (low + high, 2 * high, 2 * bottom, sign)
    return (2 * low, low + high, 2 * bottom, sign)


def narrowed(wholes, place, width):
    """A place in this one, of the same root, that is at most as wide as the fraction says."""
    low, high, bottom, sign = place
    while (high - low) * width[1] > width[0] * bottom:
        place = halved(wholes, place)
        low, high, bottom, sign = place
    return (ratio(low, bottom), ratio(high, bottom))


def stretches(f, width):
    """For each unlike real root of f, rising, a tuple (low, high): the root alone is above low and at most high."""
    refuse_nought(f)
    lists = counting_chain(f)
    return [narrowed(lists[0], place, width) for place in places(lists)]


def is_stretch(thing, width):
    """Whether thing, which may be anything, is a tuple (low, high), high less low above 0 and at most the width."""
    if not isinstance(thing, tuple) or len(thing) != 2:
        return False
    low, high = thing
    if not is_fraction(low) or not is_fraction(high):
        return False
    return is_less(low, high) and not is_less(width, minus(high, low))


def stretches_hold(f, width, thing):
    """Whether thing, which may be anything, is such a list as stretches tells of f and width."""
    refuse_nought(f)
    if not isinstance(thing, list):
        return False
    lists = counting_chain(f)
    if len(thing) != count_between(lists, None, None):
        return False
    for place, one in enumerate(thing):
        if not is_stretch(one, width) or count_between(lists, one[0], one[1]) != 1:
            return False
        if place > 0 and is_less(one[0], thing[place - 1][1]):
            return False
    return True


def left_over(wholes, x, modulus):
    """What the polynomial's number at x leaves over, divided by modulus."""
    total = 0
    for whole in reversed(wholes):
        total = (total * x + whole) % modulus
    return total


def serves(wholes, modulus):
    """Whether fraction roots can be told from what they leave over, divided by modulus."""
    if greatest_divisor(wholes[-1], modulus) != 1:
        return False
    numbers = [whole % modulus for whole in wholes]
    inclines = wholes_slope(numbers)
    for x in range(modulus):
        if left_over(numbers, x, modulus) == 0:
            if greatest_divisor(left_over(inclines, x, modulus), modulus) != 1:
                return False
    return True


def least_modulus(wholes):
    """The least number that serves."""
    modulus = 2
    # There is one: a prime that divides neither the last number nor the discriminant serves.
    while not serves(wholes, modulus):
        modulus += 1
    return modulus


def refined(wholes, x, modulus, reach):
    """The one number, at most reach on either side of 0, that a root with x left over can be, times the last number."""
    inclines = wholes_slope(wholes)
    steep = left_over(inclines, x, modulus)
    # What steep is to be multiplied with so that 1 is left over.
    inverse = [k for k in range(modulus) if k * steep % modulus == 1][0]
    while modulus <= 2 * reach:
        # Each turn squares what divides the polynomial's number at x.
        modulus *= modulus
        x = (x - left_over(wholes, x, modulus) * inverse) % modulus
        inverse = inverse * (2 - left_over(inclines, x, modulus) * inverse) % modulus
    top = x * wholes[-1] % modulus
    return top if 2 * top <= modulus else top - modulus


def fraction_roots(f):
    """Those roots of f that are fractions, rising, each once."""
    refuse_nought(f)
    wholes = counting_chain(f)[0]
    # A root that is a fraction, times the last number, is whole.
    last = wholes[-1]
    reach = abs(last) * root_bound(wholes)
    modulus = least_modulus(wholes)
    tops = [refined(wholes, x, modulus, reach) for x in range(modulus) if left_over(wholes, x, modulus) == 0]
    found = [top * sign_of(last) for top in tops if wholes_at(wholes, top, last)[0] == 0]
    return [ratio(top, abs(last)) for top in sorted(found)]
