"""Fractions: tuples (top, bottom) of whole numbers in lowest terms, the bottom from 1 on."""

from momentwright.errors import NoFraction
from momentwright.wholes import greatest_divisor, is_whole


def is_fraction(thing):
    """Whether thing, which may be anything, is a fraction."""
    if not isinstance(thing, tuple) or len(thing) != 2:
        return False
    top, bottom = thing
    if not is_whole(top) or not is_whole(bottom) or bottom < 1:
        return False
    return greatest_divisor(top, bottom) == 1


def ratio(top, bottom):
    """The fraction that top divided by bottom is."""
    if bottom == 0:
        raise NoFraction("no fraction has 0 as its bottom")
    divisor = greatest_divisor(top, bottom)
    if bottom < 0:
        # Both signs turn with the divisor's, so that the bottom comes out above 0.
        divisor = -divisor
    return (top // divisor, bottom // divisor)


def plus(one, other):
    """The sum of two fractions."""
    return ratio(one[0] * other[1] + other[0] * one[1], one[1] * other[1])


def minus(one, other):
    """The one fraction less the other."""
    return ratio(one[0] * other[1] - other[0] * one[1], one[1] * other[1])


def times(one, other):
    """The product of two fractions."""
    return ratio(one[0] * other[0], one[1] * other[1])


def over(one, other):
    """The one fraction divided by the other."""
    if other[0] == 0:
        raise NoFraction("no fraction is divided by 0")
    return ratio(one[0] * other[1], one[1] * other[0])


def is_less(one, other):
    """Whether the one fraction is less than the other."""
    return one[0] * other[1] < other[0] * one[1]
