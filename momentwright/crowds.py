"""Crowds: lists of tuples (spot, weight) of fractions, spots rising, weights above 0."""

from momentwright.fractions import is_fraction, is_less, ratio
from momentwright.polynomials import cleared


def is_spot(thing):
    """Whether thing, which may be anything, is a tuple (spot, weight) as crowds have them."""
    if not isinstance(thing, tuple) or len(thing) != 2:
        return False
    spot, weight = thing
    return is_fraction(spot) and is_fraction(weight) and weight[0] > 0


def is_crowd(thing):
    """Whether thing, which may be anything, is a crowd, of however many spots."""
    if not isinstance(thing, list):
        return False
    for place, one in enumerate(thing):
        if not is_spot(one):
            return False
        if place > 0 and not is_less(thing[place - 1][0], one[0]):
            return False
    return True


def sums_of(crowd, many):
    """The first so many sums of a crowd: at place k all weights together, each times its spot to the power k."""
    spots, spots_bottom = cleared([spot for spot, weight in crowd])
    weighed, bottom = cleared([weight for spot, weight in crowd])
    told = []
    for k in range(many):
        told.append(ratio(sum(weighed), bottom))
        weighed = [whole * spot for whole, spot in zip(weighed, spots)]
        bottom *= spots_bottom
    return told
