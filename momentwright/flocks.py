"""Flocks: tuples (roots, weights) of two polynomials, the number of weights at each root being its weight."""

from momentwright.chains import balance
from momentwright.fractions import minus, over
from momentwright.polynomials import (
    ZERO, grown, inverse, is_polynomial, multiplied, number_at, number_of, parted, product_rest, slope, summed,
)
from momentwright.stretches import fraction_roots
from momentwright.sums import worth

ONE = (1, 1)
MOST_ROOTS = 6


def is_flock(thing):
    """Whether thing, which may be anything, is a flock."""
    if not isinstance(thing, tuple) or len(thing) != 2:
        return False
    roots, weights = thing
    if not is_polynomial(roots) or not is_polynomial(weights):
        return False
    degree = len(roots) - 1
    if degree < 0 or degree > MOST_ROOTS or roots[-1] != ONE or len(weights) > degree:
        return False
    # As many roots as the degree are all of them: so they are real, unlike, and weigh more than 0.
    return balance(roots, weights) == degree


def less_spot(spot):
    """The polynomial x less the spot."""
    return [(-spot[0], spot[1]), ONE]


def flock_of(crowd):
    """The flock of a crowd."""
    roots = [ONE]
    for spot, weight in crowd:
        roots = multiplied(roots, less_spot(spot))
    weights = []
    for spot, weight in crowd:
        # This one is 0 at all spots but its own.
        others = parted(roots, less_spot(spot))[0]
        weights = summed(weights, grown(others, over(weight, number_at(others, spot))))
    return (roots, weights)


def crowd_of(flock):
    """The crowd of a flock, None where one of its roots is no fraction."""
    roots, weights = flock
    spots = fraction_roots(roots)
    if len(spots) < len(roots) - 1:
        return None
    return [(spot, number_at(weights, spot)) for spot in spots]


def over_roots(flock):
    """The polynomial that at each root is the weight there, times the slope of the roots.

    Divided by the roots it is what each weight comes to, divided by x less its root, all together.
    """
    roots, weights = flock
    return product_rest(weights, slope(roots), roots)


def weights_by(above, roots):
    """The weights of the flock of these roots for which above is what over_roots tells."""
    if len(roots) == 1:
        return []
    return product_rest(above, inverse(slope(roots), roots), roots)


def falling(above, under, many):
    """The first so many numbers of above divided by under, led by 1, by falling powers of x, from 1 by x on."""
    degree = len(under) - 1
    told = []
    for k in range(many):
        start = max(0, k - degree)
        ahead = worth(told[start:], under[degree - k + start:degree])
        told.append(minus(number_of(above, degree - 1 - k) if k < degree else ZERO, ahead))
    return told


def flock_sums(flock, many):
    """The first so many sums of a flock: at place k all weights, each times its root to the power k."""
    return falling(over_roots(flock), flock[0], many)
