"""Joins: sums, crowds and flocks moved, grown, weighted; and two of them poured, added, multiplied."""

from momentwright.flocks import ONE, less_spot
from momentwright.fractions import over, plus, ratio, times
from momentwright.onward import powers_from
from momentwright.polynomials import cleared, led, multiplied, summed


def by_powers(numbers, by):
    """Each number times the fraction to the power of its place."""
    told = []
    top = bottom = 1
    for number in numbers:
        told.append(ratio(number[0] * top, number[1] * bottom))
        top *= by[0]
        bottom *= by[1]
    return told


def sums_moved(sums, by):
    """The sums that go with spots that are more by the fraction."""
    return powers_from(sums, (-by[0], by[1]))


def sums_grown(sums, by):
    """The sums that go with spots that are so many times as the fraction says."""
    return by_powers(sums, by)


def sums_weighted(sums, by):
    """The sums that go with weights that are so many times as the fraction says."""
    return [times(number, by) for number in sums]


def sums_poured(one, other):
    """The sums that go with all spots of both, as many as the fewer are."""
    return [plus(former, latter) for former, latter in zip(one, other)]


def sums_added(one, other):
    """The sums that go with the sums of a spot of each, as many as the fewer are."""
    many = min(len(one), len(other))
    formers, former_bottom = cleared(one[:many])
    latters, latter_bottom = cleared(other[:many])
    told = []
    # How often each product of a power of the one spot and a power of the other stands in a power of their sum.
    often = [1]
    for k in range(many):
        total = sum([how_often * formers[j] * latters[k - j] for j, how_often in enumerate(often)])
        told.append(ratio(total, former_bottom * latter_bottom))
        often = [before + after for before, after in zip([0] + often, often + [0])]
    return told


def sums_multiplied(one, other):
    """The sums that go with the products of a spot of each, as many as the fewer are."""
    return [times(former, latter) for former, latter in zip(one, other)]


def together(pairs):
    """The crowd of some tuples (spot, weight), in whatever order; spots that are alike have their weights together."""
    weights = {}
    for spot, weight in pairs:
        weights[spot] = plus(weights[spot], weight) if spot in weights else weight
    spots = list(weights)
    # Over one common bottom they are in order where their tops are.
    return [(spot, weights[spot]) for top, spot in sorted(zip(cleared(spots)[0], spots))]


def crowd_moved(crowd, by):
    """The crowd whose spots are more by the fraction."""
    return together([(plus(spot, by), weight) for spot, weight in crowd])


def crowd_grown(crowd, by):
    """The crowd whose spots are so many times as the fraction says."""
    return together([(times(spot, by), weight) for spot, weight in crowd])


def crowd_weighted(crowd, by):
    """The crowd whose weights are so many times as the fraction, above 0, says."""
    return [(spot, times(weight, by)) for spot, weight in crowd]


def crowd_poured(one, other):
    """The crowd of all spots of both."""
    return together(one + other)


def crowd_added(one, other):
    """The crowd of the sums of a spot of each, with the products of their weights."""
    return together([(plus(spot, far), times(weight, by)) for spot, weight in one for far, by in other])


def crowd_multiplied(one, other):
    """The crowd of the products of a spot of each, with the products of their weights."""
    return together([(times(spot, far), times(weight, by)) for spot, weight in one for far, by in other])


def polynomial_moved(f, by):
    """The polynomial that has at each number more by the fraction what f has at the number."""
    told = []
    for number in reversed(f):
        told = summed(multiplied(told, less_spot(by)), [number])
    return told


def flock_moved(flock, by):
    """The flock whose roots are more by the fraction, the weights as they were."""
    roots, weights = flock
    return (polynomial_moved(roots, by), polynomial_moved(weights, by))


def flock_grown(flock, by):
    """The flock whose roots are so many times as the fraction, which is not 0, says, the weights as they were."""
    roots, weights = flock
    # What has a root so many times as great is reckoned at so many times as little.
    less = over(ONE, by)
    return (led(by_powers(roots, less)), by_powers(weights, less))
