"""A gauge: sums that some flock has, put and taken back one by one."""

from momentwright.back import back, is_bar, outlook
from momentwright.errors import NoDeed, NoSum
from momentwright.flocks import ONE
from momentwright.more import had, next_sum
from momentwright.polynomials import ZERO

MOST_SUMS = 11


class Gauge:
    """Sums that some flock has, at first none."""

    def __init__(self):
        self.sums = []

    def put(self, number):
        """One sum more is put behind the others."""
        if len(self.sums) >= MOST_SUMS:
            raise NoSum("there are as many sums as can be")
        longer = self.sums + [number]
        if is_bar(outlook(longer)):
            raise NoSum("no flock has the sums with this one")
        self.sums = longer

    def take(self):
        """The last sum is taken back."""
        if not self.sums:
            raise NoDeed("there is no sum to take back")
        self.sums = self.sums[:-1]

    def told(self):
        """The list of the sums."""
        return list(self.sums)

    def may_come(self):
        """What may come next, as next_sum tells it; None where no more can be put."""
        if not self.sums:
            return ("from", ZERO)
        if len(self.sums) >= MOST_SUMS:
            return None
        return next_sum(self.sums)

    def is_tight(self):
        """Whether just one flock has the sums; with none it is not so."""
        return len(self.sums) > 0 and had(self.sums)[0] == "tight"

    def some_flock(self):
        """Some flock that has the sums; with none that without roots."""
        if not self.sums:
            return ([ONE], [])
        return back(self.sums)[1]
