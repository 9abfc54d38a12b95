"""One sum more: what may come behind sums that some flock has."""

from momentwright.back import is_bar, outlook
from momentwright.errors import NoSums
from momentwright.fractions import minus
from momentwright.polynomials import ZERO
from momentwright.sums import worth


def had(sums):
    """A tuple ("tight", roots) or ("open", roots), the roots of a flock with the sums that has as few as can be."""
    told = outlook(sums)
    if is_bar(told):
        raise NoSums("no flock has these sums")
    return told


def number_behind(sums, roots):
    """The sum that a flock of these roots has next."""
    degree = len(roots) - 1
    return minus(ZERO, worth(sums[len(sums) - degree:], roots[:degree]))


def is_tight(sums):
    """Whether just one flock has the sums."""
    return had(sums)[0] == "tight"


def next_sum(sums):
    """What may come next: ("just", number), ("from", number), it and all greater ones, or ("any",)."""
    word, roots = had(sums)
    if word == "tight":
        return ("just", number_behind(sums, roots))
    if len(sums) & 1:
        return ("any",)
    # With the least number that may come, the sums are tight, and this flock alone has them.
    return ("from", number_behind(sums, roots))


def fewest(sums):
    """The least number of roots that a flock with the sums has."""
    return len(had(sums)[1]) - 1


def led_on(sums, many):
    """The sums and so many more: what alone may come, the least that may, or 0 where any may."""
    roots = had(sums)[1]
    told = list(sums)
    for turn in range(many):
        told.append(number_behind(told, roots))
    return told
