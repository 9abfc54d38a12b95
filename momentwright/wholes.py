"""Whole numbers, and lists of them that stand for polynomials, place k going with x to the power k.

Polynomials are reckoned with over one common bottom here, because bringing each
number of each step to lowest terms costs more than all the rest.
"""


def is_whole(thing):
    """Whether thing, which may be anything, is a whole number."""
    # To Python a truth is an int; to the document it is no whole number.
    return isinstance(thing, int) and not isinstance(thing, bool)


def greatest_divisor(one, other):
    """The greatest number that divides both, 0 where both are 0."""
    one, other = abs(one), abs(other)
    while other != 0:
        one, other = other, one % other
    return one


def sign_of(whole):
    """1 above 0, -1 below 0, and 0 itself."""
    if whole == 0:
        return 0
    return 1 if whole > 0 else -1


def power(base, many):
    """The product of so many times base."""
    product = 1
    for turn in range(many):
        product *= base
    return product


def trimmed(numbers, zero):
    """A new list: the numbers up to the last one that is not zero."""
    many = len(numbers)
    while many > 0 and numbers[many - 1] == zero:
        many -= 1
    return numbers[:many]


def lowered(wholes):
    """The list divided by the greatest number that divides all of it."""
    divisor = 0
    for whole in wholes:
        divisor = greatest_divisor(divisor, whole)
    return [whole // divisor for whole in wholes]


def wholes_multiplied(one, other):
    """The product of two lists that stand for polynomials."""
    if not one or not other:
        return []
    product = [0] * (len(one) + len(other) - 1)
    for j, former in enumerate(one):
        for k, latter in enumerate(other):
            product[j + k] += former * latter
    return product


def wholes_slope(wholes):
    """The slope of the polynomial that the list stands for."""
    return [k * wholes[k] for k in range(1, len(wholes))]


def wholes_at(wholes, top, bottom):
    """A tuple (total, scale): total divided by scale is the polynomial's number at top divided by bottom.

    The scale is a power of bottom, so that total has the number's sign where bottom is above 0.
    """
    total, scale = 0, 1
    for whole in reversed(wholes):
        scale *= bottom
        total = total * top + whole * scale
    return (total, scale)


def wholes_parted(one, other):
    """A tuple (quotient, rest, scale) of two lists and a whole number that is not 0.

    The scale times the one is the quotient times the other and the rest, together;
    the rest is of lesser degree than the other, which is not empty and ends with no 0.
    Where the one is the other times a list of whole numbers, the scale is 1.
    """
    last = other[-1]
    rest = list(one)
    quotient = [0] * max(0, len(one) - len(other) + 1)
    scale = 1
    for place in range(len(one) - len(other), -1, -1):
        part = rest.pop()
        if part % last == 0:
            # Scaled without need, the numbers would only become longer.
            part //= last
        else:
            scale *= last
            quotient = [last * whole for whole in quotient]
            rest = [last * whole for whole in rest]
        quotient[place] = part
        for k in range(len(other) - 1):
            rest[place + k] -= part * other[k]
    return (quotient, trimmed(rest, 0), scale)


def wholes_rests(one, other):
    """The rests of one by other, of other by the first rest, and so on, up to the last one that is not empty.

    Each is a tuple (rest, quotient, top, bottom): bottom times the former of the two lists ahead is
    the quotient times the latter and top times the rest, together. The one has at least as many numbers
    as the other, and neither ends with 0.
    """
    told = []
    # By this top a rest can always be divided (it is then a subresultant of the first two lists), so that
    # the numbers stay short without seeking what divides them.
    lead, height = 1, 1
    while other:
        gap = len(one) - len(other)
        bottom = power(other[-1], gap + 1)
        quotient, rest, scale = wholes_parted(one, other)
        top = lead * power(height, gap)
        if rest:
            lack = bottom // scale
            rest = [lack * whole // top for whole in rest]
            told.append((rest, [lack * whole for whole in quotient], top, bottom))
        one, other = other, rest
        lead = one[-1]
        if gap > 0:
            height = power(lead, gap) // power(height, gap - 1)
    return told


def wholes_shared(one, other):
    """Some list of the greatest degree that leaves no rest in both; of two empty lists the empty one."""
    if len(one) < len(other):
        one, other = other, one
    if not other:
        return lowered(one)
    rests = wholes_rests(lowered(one), lowered(other))
    return lowered(rests[-1][0] if rests else other)
