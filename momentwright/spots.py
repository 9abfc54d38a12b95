"""Told spots: flocks that have a root there, how much may weigh there, and what a flock weighs up to there."""

from momentwright.back import fits, flock_with
from momentwright.chains import count_between, counting_chain, places, root_bound
from momentwright.errors import NoSums
from momentwright.flocks import ONE, flock_sums
from momentwright.fractions import is_fraction, over, plus, times
from momentwright.more import had
from momentwright.polynomials import ZERO, grown, is_polynomial, lessened, number_at, slope, summed
from momentwright.steps import steps
from momentwright.stretches import narrowed
from momentwright.sums import square_sum


def flock_at(sums, spot):
    """A flock with the sums that has the spot among its roots, and as few roots as can be; None where none is."""
    word, roots = had(sums)
    if not len(sums) & 1:
        raise NoSums("the sums are even in number")
    if word == "tight":
        return flock_with(sums, roots) if number_at(roots, spot) == ZERO else None
    step = steps(sums)[-1][0]
    number = number_at(step, spot)
    if number == ZERO:
        return None
    # Whatever sum comes next, the roots change by so many times the greatest step.
    many = over(number_at(roots, spot), number)
    return flock_with(sums, lessened(roots, grown(step, many)))


def least_square(sums, spot):
    """A tuple (number, f): f has the least square sum, the number, of all polynomials that are 1 at the spot."""
    word, roots = had(sums)
    ladder = steps(sums)
    if word == "tight":
        number = number_at(roots, spot)
        if number != ZERO:
            return (ZERO, grown(roots, over(ONE, number)))
        ladder.pop()
    told = []
    for step, square in ladder:
        told = summed(told, grown(step, over(number_at(step, spot), square)))
    number = over(ONE, number_at(told, spot))
    return (number, grown(told, number))


def shows_most(sums, spot, number, f):
    """Whether number and f, which may be anything, show that no flock with the sums weighs more at the spot."""
    had(sums)
    if not is_fraction(number) or not is_polynomial(f) or not fits(sums, f, f):
        return False
    return number_at(f, spot) == ONE and square_sum(sums, f, f) == number


def steepest(f, bound):
    """A fraction above 0 that no slope of f is beyond, between bound and the same below 0."""
    numbers = [(abs(number[0]), number[1]) for number in slope(f)]
    return plus(ONE, number_at(numbers, (bound, 1)))


def weight_up_to(flock, spot, width):
    """A tuple (low, high), no farther apart than the width, around what the roots up to the spot weigh together."""
    roots, weights = flock
    lists = counting_chain(roots)
    many = count_between(lists, None, spot)
    if many == 0:
        return (ZERO, ZERO)
    if many == len(roots) - 1:
        total = flock_sums(flock, 1)[0]
        return (total, total)
    quarter = over(width, (4, 1))
    near = over(quarter, times((many, 1), steepest(weights, root_bound(lists[0]))))
    total = ZERO
    for place in places(lists)[:many]:
        total = plus(total, number_at(weights, narrowed(lists[0], place, near)[1]))
    # The total is at most a quarter away; in whole quarters low and high need few figures.
    top, bottom = over(total, quarter)
    return (times(quarter, (top // bottom - 1, 1)), times(quarter, (top // bottom + 2, 1)))
