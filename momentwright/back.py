"""Back from sums: a flock that has them, or a bar by which anyone sees that none has."""

from momentwright.flocks import ONE, weights_by
from momentwright.polynomials import ZERO, is_polynomial
from momentwright.steps import furthest_step, steps
from momentwright.sums import square_sum, worth
from momentwright.wholes import trimmed


def fits(sums, f, g):
    """Whether f times g has no more numbers than there are sums."""
    return not f or not g or len(f) + len(g) - 1 <= len(sums)


def bars(sums, thing):
    """Whether thing, which may be anything, is a bar of the sums."""
    if not isinstance(thing, tuple) or len(thing) not in (2, 3):
        return False
    for f in thing[1:]:
        if not is_polynomial(f) or not fits(sums, thing[1], f):
            return False
    square = square_sum(sums, thing[1], thing[1])
    if len(thing) == 2:
        return thing[0] == "below" and square[0] < 0
    return thing[0] == "nought" and square == ZERO and square_sum(sums, thing[1], thing[2]) != ZERO


def nought_bar(sums, step):
    """The bar by a step whose square sum is 0 and some power of x with which its square sum is not; else None."""
    for k in range(len(sums) - len(step) + 1):
        if worth(sums[k:], step) != ZERO:
            return ("nought", step, [ZERO] * k + [ONE])
    return None


def outlook(sums):
    """A bar of the sums; or ("tight", roots) or ("open", roots), the roots being those of some flock with them.

    Such a flock has as few roots as can be.
    """
    step, square = steps(sums)[-1]
    if square[0] < 0:
        return ("below", step)
    if square == ZERO:
        return nought_bar(sums, step) or ("tight", step)
    # Any number may come behind an odd number of open sums; only with it do they tell one step more.
    return ("open", furthest_step(sums + [ZERO] if len(sums) & 1 else sums))


def is_bar(told):
    """Whether an outlook is a bar."""
    return told[0] not in ("tight", "open")


def flock_with(sums, roots):
    """The flock of these roots that has the sums, where there is one."""
    above = trimmed([worth(sums, roots[k + 1:]) for k in range(len(roots) - 1)], ZERO)
    return (roots, weights_by(above, roots))


def back(sums):
    """A tuple ("flock", flock), some flock that has the sums, or some bar of them."""
    told = outlook(sums)
    return told if is_bar(told) else ("flock", flock_with(sums, told[1]))
