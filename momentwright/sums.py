"""Sums, and what polynomials are worth by them."""

from momentwright.errors import NoSums
from momentwright.fractions import ratio
from momentwright.polynomials import cleared, multiplied


def worth(sums, f):
    """The numbers of f, each times the sum at its place, together."""
    if len(f) > len(sums):
        raise NoSums("the polynomial has more numbers than there are sums")
    numbers, numbers_bottom = cleared(f)
    wholes, bottom = cleared(sums[:len(f)])
    return ratio(sum([number * whole for number, whole in zip(numbers, wholes)]), numbers_bottom * bottom)


def square_sum(sums, f, g):
    """The worth of the product of f and g."""
    return worth(sums, multiplied(f, g))
