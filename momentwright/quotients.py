"""Quotients: two polynomials whose quotient is each weight divided by x less its root, all together."""

from momentwright.errors import NoFlock
from momentwright.flocks import falling, is_flock, over_roots, weights_by


def quotient_of(flock):
    """The tuple (over, under) of a flock, under being its roots."""
    return (over_roots(flock), list(flock[0]))


def has_flock(over, under):
    """Whether some flock has the quotient (over, under)."""
    if not under or len(over) >= len(under):
        return False
    # At each root a weight is over divided by the slope there, which has the sign of over times the slope.
    return is_flock((under, over_roots((under, over))))


def flock_by(over, under):
    """The flock whose quotient the two polynomials are."""
    if not has_flock(over, under):
        raise NoFlock("no flock has this quotient")
    return (list(under), weights_by(over, under))


def first_sums(over, under, many):
    """The first so many numbers of over divided by under, led by 1, by falling powers of x, from 1 by x on."""
    return falling(over, under, many)
