"""A desk: a gauge that is told rows and answers with texts."""

from momentwright.errors import NoRow, NoText
from momentwright.flocks import crowd_of
from momentwright.gauge import Gauge
from momentwright.stretches import stretches
from momentwright.texts import NONE, crowd_text, fraction_text, read_fraction, sums_text

DONE = "ok"
UNSAID = "unsaid"


def answer_put(gauge, number):
    """A sum is put."""
    gauge.put(number)
    return DONE


def answer_back(gauge):
    """The last sum is taken back."""
    gauge.take()
    return DONE


def answer_sums(gauge):
    """The sums."""
    sums = gauge.told()
    return sums_text(sums) if sums else NONE


def answer_next(gauge):
    """What may come next."""
    told = gauge.may_come()
    if told is None:
        return NONE
    return " ".join([told[0]] + [fraction_text(number) for number in told[1:]])


def answer_tight(gauge):
    """Whether the sums are tight."""
    return "yes" if gauge.is_tight() else "no"


def answer_crowd(gauge):
    """The crowd of tight sums, where all roots are fractions."""
    crowd = crowd_of(gauge.some_flock()) if gauge.is_tight() else None
    return UNSAID if crowd is None else crowd_text(crowd)


def answer_roots(gauge, width):
    """The stretches of the roots of tight sums."""
    if width[0] <= 0:
        raise NoRow("a width is above 0")
    if not gauge.is_tight():
        return UNSAID
    told = [f"{fraction_text(low)}..{fraction_text(high)}" for low, high in stretches(gauge.some_flock()[0], width)]
    return " ".join(told) if told else NONE


ALONE = {
    "back": answer_back, "sums": answer_sums, "next": answer_next, "tight": answer_tight, "crowd": answer_crowd,
}
WITH_FRACTION = {"put": answer_put, "roots": answer_roots}


def fraction_in_row(text):
    """The fraction that is written in a row."""
    try:
        return read_fraction(text)
    except NoText:
        raise NoRow("no fraction is so written") from None


class Desk:
    """A gauge that rows are told to."""

    def __init__(self):
        self.gauge = Gauge()

    def say(self, row):
        """The answer to a row."""
        if not isinstance(row, str):
            raise NoRow("a row is a text")
        if row in ALONE:
            answer_alone = ALONE[row]
            return answer_alone(self.gauge)
        word, blank, rest = row.partition(" ")
        if word not in WITH_FRACTION:
            raise NoRow("there is no such row")
        answer_with = WITH_FRACTION[word]
        return answer_with(self.gauge, fraction_in_row(rest))
