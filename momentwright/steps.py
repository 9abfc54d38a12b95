"""Steps: the polynomials led by 1 whose square sum with each one of lesser degree is 0."""

from momentwright.errors import NoSums
from momentwright.fractions import ratio
from momentwright.polynomials import cleared, divided, grown, lessened, number_of


def met(wholes, row, k):
    """The worth, by whole numbers as sums, of row times x to the power k."""
    return sum([number * whole for number, whole in zip(row, wholes[k:])])


def next_row(wholes, row, before):
    """The row behind two that follow one another, in the sense of step_rows."""
    k = len(row) - 1
    last, height = row[-1], met(wholes, row, k)
    middle = last * met(wholes, row, k + 1)
    if k > 0:
        middle += height * row[-2]
    told = [last * height * number for number in [0] + row]
    for place, number in enumerate(row):
        told[place] -= middle * number
    for place, number in enumerate(before):
        told[place] -= height * height * number
    return [number // (last * last) for number in told]


def step_rows(wholes):
    """The steps of whole numbers as sums, as far as these tell a step, be its square sum told or not.

    Each is a list of whole numbers: the step times its last number. That is the determinant of as many
    rows of sums as the step's degree is; so all numbers here are whole, and no divisor need be sought.
    The last one is the first whose square sum is not above 0, or else the one of greatest degree.
    """
    rows = [[1]]
    before = []
    while 2 * len(rows) <= len(wholes) and met(wholes, rows[-1], len(rows) - 1) > 0:
        row = next_row(wholes, rows[-1], before)
        before = rows[-1]
        rows.append(row)
    return rows


def steps(sums):
    """The tuples (step, its square sum) that the sums tell, up to the first square sum not above 0."""
    wholes, bottom = cleared(sums)
    told = []
    for k, row in enumerate(step_rows(wholes)):
        # A row of an even number of sums may be one step more than those whose square sum they tell.
        if 2 * k < len(sums):
            told.append((divided(row, row[-1]), ratio(met(wholes, row, k), row[-1] * bottom)))
    return told


def furthest_step(sums):
    """The step of greatest degree that the sums tell, be its square sum told or not."""
    row = step_rows(cleared(sums)[0])[-1]
    return divided(row, row[-1])


def by_steps(sums, f):
    """How many times each step goes into f: fractions, one for each of its numbers."""
    ladder = steps(sums)
    if len(f) > len(ladder):
        raise NoSums("the polynomial is of greater degree than the last step that the sums tell")
    told = []
    rest = f
    for k in range(len(f) - 1, -1, -1):
        many = number_of(rest, k)
        told.append(many)
        rest = lessened(rest, grown(ladder[k][0], many))
    return told[::-1]
