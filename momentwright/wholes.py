"""Whole numbers, and lists of them that stand for polynomials, place k going with x to the power k.

Polynomials are reckoned with over one common bottom here, because bringing each
number of each step to lowest terms costs more than all the rest.
"""


def is_whole(thing):
    """Whether thing, which may be anything, is a whole number."""
    # To Python a truth is an int; to the document it is no whole number.
    return isinstance(thing, int) and not isinstance(thing, bool)


def greatest_divisor(one, other):
    """The greatest number that divides both, 0 where both are 0."""
    one, other = abs(one), abs(other)
    while other != 0:
        one, other = other, one % other
    return one


def trimmed(numbers, zero):
    """A new list: the numbers up to the last one that is not zero."""
    many = len(numbers)
    while many > 0 and numbers[many - 1] == zero:
        many -= 1
    return numbers[:many]


def lowered(wholes):
    """The list divided by the greatest number that divides all of it."""
    divisor = 0
    for whole in wholes:
        divisor = greatest_divisor(divisor, whole)
    return [whole // divisor for whole in wholes]


def wholes_parted(one, other):
    """A tuple (quotient, rest, scale) of two lists and a whole number that is not 0.

    The scale times the one is the quotient times the other and the rest, together;
    the rest is of lesser degree than the other, which is not empty and ends with no 0.
    """
    last = other[-1]
    rest = list(one)
    quotient = [0] * max(0, len(one) - len(other) + 1)
    scale = 1
    for place in range(len(one) - len(other), -1, -1):
        top = rest.pop()
        # Only by what top lacks to be divided by last is all scaled, else the numbers grow needlessly.
        divisor = greatest_divisor(last, top)
        factor, part = last // divisor, top // divisor
        scale *= factor
        quotient = [factor * whole for whole in quotient]
        quotient[place] = part
        rest = [factor * whole for whole in rest]
        for k in range(len(other) - 1):
            rest[place + k] -= part * other[k]
    return (quotient, trimmed(rest, 0), scale)


def wholes_shared(one, other):
    """Some list of the greatest degree that leaves no rest in both; of two empty lists the empty one."""
    while other:
        rest = wholes_parted(one, other)[1]
        # The numbers of a rest have a great divisor in common: left in, it would make all later ones longer.
        one, other = other, lowered(rest)
    return one
