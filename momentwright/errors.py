"""The refusals of the program, one class for each kind."""


class MomentError(ValueError):
    """Any refusal."""


class NoFraction(MomentError):
    """There is no such fraction."""


class NoPolynomial(MomentError):
    """A polynomial is nought where it must not be."""


class NoSums(MomentError):
    """The sums do not serve for what is asked."""


class NoFlock(MomentError):
    """There is no such flock."""


class NoWalk(MomentError):
    """The turns and rises do not serve for what is asked."""


class NoSum(MomentError):
    """A sum cannot be put."""


class NoDeed(MomentError):
    """There is no deed to take back."""


class NoText(MomentError):
    """A text is not written as it must be."""


class NoRow(MomentError):
    """A row is none of those that a desk knows."""
