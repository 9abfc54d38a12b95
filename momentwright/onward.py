"""From a spot on: flocks that have no root below it, or bars by which anyone sees that there is none."""

from momentwright.back import bars, flock_with, is_bar, outlook
from momentwright.flocks import ONE, less_spot
from momentwright.fractions import ratio
from momentwright.polynomials import ZERO, cleared, multiplied
from momentwright.wholes import is_whole


def wholes_from(wholes, spot):
    """Each whole number less the spot times the one before it, from the second one on, times the spot's bottom."""
    top, bottom = spot
    return [bottom * after - top * before for before, after in zip(wholes, wholes[1:])]


def sums_from(sums, spot):
    """The sums from the spot on, one fewer: the worths of x less the spot, times each power of x."""
    wholes, bottom = cleared(sums)
    return [ratio(whole, bottom * spot[1]) for whole in wholes_from(wholes, spot)]


def powers_from(sums, spot):
    """The worths of x less the spot to each power, as many as the sums are."""
    wholes, bottom = cleared(sums)
    told = []
    while wholes:
        told.append(ratio(wholes[0], bottom))
        wholes = wholes_from(wholes, spot)
        bottom *= spot[1]
    return told


def back_from(sums, spot):
    """("flock", flock), which has the sums and no root below the spot; or a bar of it, with 0 or 1 behind."""
    told = outlook(sums)
    if is_bar(told):
        return told + (0,)
    others = [ONE]
    if len(sums) > 1:
        behind = outlook(sums_from(sums, spot))
        if is_bar(behind):
            return behind + (1,)
        others = behind[1]
    word, roots = told
    # With neither barred, these roots are not below the spot, but for those of an odd number of open sums:
    # there any number may come next, and only with the spot itself among the roots none is below it.
    if word == "open" and len(sums) & 1:
        roots = multiplied(less_spot(spot), others)
    return ("flock", flock_with(sums, roots))


def bar_from_holds(sums, spot, thing):
    """Whether thing, which may be anything, is a right bar of what back_from tells."""
    if not isinstance(thing, tuple) or not thing or not is_whole(thing[-1]):
        return False
    if thing[-1] == 0:
        return bars(sums, thing[:-1])
    return thing[-1] == 1 and len(sums) > 1 and bars(sums_from(sums, spot), thing[:-1])


def even_sums(sums, spot):
    """Twice as many sums less one: number 2 k the worth of x less the spot to the power k, the others 0."""
    told = []
    for number in powers_from(sums, spot):
        told += [number, ZERO]
    return told[:-1]
