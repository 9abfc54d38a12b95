"""Polynomials: lists of fractions, place k going with x to the power k, the last one not 0; [] is nought."""

from momentwright.errors import NoPolynomial
from momentwright.fractions import is_fraction, minus, over, plus, ratio, times
from momentwright.wholes import (
    greatest_divisor, trimmed, wholes_at, wholes_multiplied, wholes_parted, wholes_rests, wholes_shared,
)

ZERO = (0, 1)


def is_polynomial(thing):
    """Whether thing, which may be anything, is a polynomial, of however many numbers."""
    if not isinstance(thing, list):
        return False
    for number in thing:
        if not is_fraction(number):
            return False
    return len(thing) == 0 or thing[-1] != ZERO


def number_of(f, place):
    """The number of f at a place, 0 where f does not reach so far."""
    return f[place] if place < len(f) else ZERO


def summed(f, g):
    """The sum of two polynomials."""
    many = max(len(f), len(g))
    return trimmed([plus(number_of(f, k), number_of(g, k)) for k in range(many)], ZERO)


def lessened(f, g):
    """The polynomial f less g."""
    many = max(len(f), len(g))
    return trimmed([minus(number_of(f, k), number_of(g, k)) for k in range(many)], ZERO)


def cleared(f):
    """A tuple (wholes, bottom): a list of whole numbers, which divided by bottom are those of f."""
    bottom = 1
    for number in f:
        bottom *= number[1] // greatest_divisor(bottom, number[1])
    return ([top * (bottom // own) for top, own in f], bottom)


def divided(wholes, bottom):
    """The polynomial whose numbers are the whole numbers, each divided by bottom."""
    return trimmed([ratio(whole, bottom) for whole in wholes], ZERO)


def multiplied(f, g):
    """The product of two polynomials."""
    f_wholes, f_bottom = cleared(f)
    g_wholes, g_bottom = cleared(g)
    return divided(wholes_multiplied(f_wholes, g_wholes), f_bottom * g_bottom)


def grown(f, by):
    """The polynomial that is f so many times as the fraction says."""
    return trimmed([times(number, by) for number in f], ZERO)


def slope(f):
    """The slope of f: k times its number at place k stands at place k - 1."""
    return [times((k, 1), f[k]) for k in range(1, len(f))]


def led(f):
    """The polynomial led by 1 that is so many times f; of nought nought."""
    return [over(number, f[-1]) for number in f]


def number_at(f, x):
    """The number that f comes to at the fraction x."""
    wholes, bottom = cleared(f)
    total, scale = wholes_at(wholes, x[0], x[1])
    return ratio(total, bottom * scale)


def parted(f, g):
    """A tuple (quotient, rest): the quotient times g, and the rest of lesser degree than g, come to f."""
    if not g:
        raise NoPolynomial("no polynomial is divided by nought")
    f_wholes, f_bottom = cleared(f)
    g_wholes, g_bottom = cleared(g)
    quotient, rest, scale = wholes_parted(f_wholes, g_wholes)
    bottom = scale * f_bottom
    return (divided([whole * g_bottom for whole in quotient], bottom), divided(rest, bottom))


def shared(f, g):
    """The polynomial led by 1 of the greatest degree that leaves no rest in both; of two noughts nought."""
    return led(divided(wholes_shared(cleared(f)[0], cleared(g)[0]), 1))


def product_rest(f, g, other):
    """The rest of f times g by another one that is not nought."""
    f_wholes, f_bottom = cleared(f)
    g_wholes, g_bottom = cleared(g)
    rest, scale = wholes_parted(wholes_multiplied(f_wholes, g_wholes), cleared(other)[0])[1:]
    return divided(rest, f_bottom * g_bottom * scale)


def inverse(f, g):
    """The polynomial of lesser degree than g that times f leaves the rest 1 by g.

    The one f is of lesser degree than g, and they share nothing.
    """
    wholes, bottom = cleared(f)
    # How many times f each rest is, but for so many times g.
    former, latter, last = [], [1], wholes
    for rest, quotient, top, scale in wholes_rests(cleared(g)[0], wholes):
        numbers = [-whole for whole in wholes_multiplied(quotient, latter)]
        for place, whole in enumerate(former):
            numbers[place] += scale * whole
        former, latter, last = latter, [whole // top for whole in numbers], rest
    return divided([whole * bottom for whole in latter], last[0])
