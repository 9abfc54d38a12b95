"""Texts: fractions, sums, polynomials and crowds, written and read."""

from momentwright.crowds import is_crowd
from momentwright.errors import NoText
from momentwright.fractions import is_fraction
from momentwright.polynomials import is_polynomial

NOUGHT = "nought"
NONE = "none"


def fraction_text(one):
    """A fraction as it is written."""
    top, bottom = one
    return str(top) if bottom == 1 else f"{top}/{bottom}"


def sums_text(sums):
    """Sums, one or more, as they are written."""
    return " ".join([fraction_text(number) for number in sums])


def polynomial_text(f):
    """A polynomial as it is written."""
    return sums_text(f) if f else NOUGHT


def crowd_text(crowd):
    """A crowd as it is written."""
    if not crowd:
        return NONE
    return " ".join([f"{fraction_text(spot)}:{fraction_text(weight)}" for spot, weight in crowd])


def words_of(text, sign):
    """The parts of a text between the signs; NoText of all that is no text."""
    if not isinstance(text, str):
        raise NoText("this is no text")
    return text.split(sign)


def whole_of(word):
    """The whole number that Python reads in a word, however loosely it is written."""
    try:
        whole = int(word)
    except ValueError:
        raise NoText("a word is no number") from None
    return whole


def read_fraction(text):
    """The fraction that is so written."""
    wholes = [whole_of(word) for word in words_of(text, "/")]
    if len(wholes) == 1:
        wholes.append(1)
    told = tuple(wholes)
    # Written again it is the same only where the text is as it must be, sign by sign.
    if not is_fraction(told) or fraction_text(told) != text:
        raise NoText("no fraction is so written")
    return told


def read_sums(text):
    """The list of one or more fractions that is so written."""
    return [read_fraction(word) for word in words_of(text, " ")]


def read_polynomial(text):
    """The polynomial that is so written."""
    told = [] if text == NOUGHT else read_sums(text)
    if not is_polynomial(told):
        raise NoText("the last number of a polynomial is not 0")
    return told


def read_spot(word):
    """The tuple (spot, weight) of fractions that is so written."""
    parts = words_of(word, ":")
    if len(parts) != 2:
        raise NoText("a spot has one weight behind a :")
    return (read_fraction(parts[0]), read_fraction(parts[1]))


def read_crowd(text):
    """The crowd that is so written."""
    told = [] if text == NONE else [read_spot(word) for word in words_of(text, " ")]
    if not is_crowd(told):
        raise NoText("the spots of a crowd rise and its weights are above 0")
    return told
