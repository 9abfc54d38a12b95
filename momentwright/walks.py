"""Turns and rises: how steps follow one another; and walks, whose worths by them come to the sums."""

from momentwright.errors import NoWalk
from momentwright.fractions import is_fraction, minus, over, ratio, times
from momentwright.more import had
from momentwright.polynomials import ZERO, cleared
from momentwright.steps import steps

MOST_TOGETHER = 11


def number_ahead(step):
    """The number of a step right ahead of its last one."""
    return step[-2] if len(step) > 1 else ZERO


def turns_of(sums):
    """A tuple (turns, rises) of two lists: those of the steps, from step 0 on, that the sums tell."""
    word, roots = had(sums)
    ladder = steps(sums)
    climbed = [step for step, square in ladder]
    if word == "open" and not len(sums) & 1:
        # Of this step the sums tell no square sum, but with it the turn of the one ahead.
        climbed.append(roots)
    turns = [minus(number_ahead(one), number_ahead(other)) for one, other in zip(climbed, climbed[1:])]
    squares = [square for step, square in ladder]
    rises = squares[:1] + [over(other, one) for one, other in zip(squares, squares[1:])]
    return (turns, rises)


def is_good(turns, rises):
    """Whether turns and rises, which may be anything, are good."""
    if not isinstance(turns, list) or not isinstance(rises, list):
        return False
    if len(rises) - len(turns) not in (0, 1) or not 1 <= len(turns) + len(rises) <= MOST_TOGETHER:
        return False
    for number in turns + rises:
        if not is_fraction(number):
            return False
    # Only where the rises are one more, this leaves one out: the last one, which may be 0.
    for rise in rises[:len(turns)]:
        if rise[0] <= 0:
            return False
    return rises[-1][0] >= 0


def refuse_bad(turns, rises):
    """NoWalk where turns and rises are not good."""
    if not is_good(turns, rises):
        raise NoWalk("the turns and rises are not good")


def one_pace_on(ways, levels, drops):
    """What all beginnings of walks with one pace more count, height by height, from what those without it do."""
    told = [0] * (len(ways) + 1)
    for height, way in enumerate(ways):
        told[height + 1] += way
        # From where a level or a drop is not known no walk comes down again while sums are told.
        if height < len(levels):
            told[height] += way * levels[height]
        if 0 < height <= len(drops):
            told[height - 1] += way * drops[height - 1]
    return told


def sums_by(turns, rises):
    """The sums that have just these turns and rises, as many as both together."""
    refuse_bad(turns, rises)
    # Were all spots so many times as bottom says, turns would be so too, and rises but the first by its square.
    wholes, bottom = cleared(turns + rises[1:])
    levels = wholes[:len(turns)]
    drops = [whole * bottom for whole in wholes[len(turns):]]
    ways, scale = [1], 1
    told = []
    for paces in range(len(turns) + len(rises)):
        told.append(ratio(ways[0] * rises[0][0], scale * rises[0][1]))
        ways = one_pace_on(ways, levels, drops)
        scale *= bottom
    return told


def walks_of(paces, top):
    """All walks of so many paces whose heights are nowhere above top, rising as tuples do."""
    begun = [((), 0)]
    for left in range(paces - 1, -1, -1):
        # A walk that is higher than paces are left does not come to 0.
        roof = min(left, top)
        begun = [
            (walk + (pace,), height + pace)
            for walk, height in begun for pace in (-1, 0, 1) if 0 <= height + pace <= roof
        ]
    return [walk for walk, height in begun]


def at_height(numbers, height):
    """The turn or rise of a height."""
    if not 0 <= height < len(numbers):
        raise NoWalk("a turn or rise that the walk needs is not among them")
    return numbers[height]


def walk_worth(walk, turns, rises):
    """The product of the rise of step 0, the turns of level paces and the rises of paces down."""
    refuse_bad(turns, rises)
    told = rises[0]
    height = 0
    for pace in walk:
        if pace == 0:
            told = times(told, at_height(turns, height))
        elif pace == -1:
            told = times(told, at_height(rises, height))
        height += pace
    return told
