"""Point 111: texts written and read."""

import random
import re
import unittest
from fractions import Fraction

from momentwright.errors import NoText
from momentwright.joins import crowd_added
from momentwright.texts import (
    crowd_text, fraction_text, polynomial_text, read_crowd, read_fraction, read_polynomial, read_sums, sums_text,
)
from support import crowd, nested, poly, py, some_crowd, some_fraction, some_polynomial

READERS = (read_fraction, read_sums, read_polynomial, read_crowd)
FRACTION = re.compile(r"(0|-?[1-9][0-9]*)(?:/([1-9][0-9]*))?\Z", re.ASCII)

NO_TEXTS = (
    None, True, False, 0, 1, -3, (), (1, 2), (0, 1), [], ["1"], [(1, 1)], {}, {"1": "2"}, ("1",), ("1", "2"), [[]],
    nested(20), [((0, 1), (1, 1))], ["1", "2"], b"1", ("nought",), ["none"],
)

# Texts that no reader takes.
BAD_TEXTS = (
    "", " ", "  ", "-", "+", "/", ":", "..", "-0", "+0", "+1", "--1", "- 1", "00", "01", "-01", "1.0", "1.", ".5", "1e3",
    "1_000", "0x10", "0b1", "1 ", " 1", "1  2", "\t1", "1\n", "\n1", "1\t2", "1\n2", "\u00a01", "1\u00a02", "1\u20032",
    "1/", "/1", "1/1", "0/1", "1/0", "0/0", "0/5", "-0/5", "1/-2", "-1/-2", "1/+2", "+1/2", "2/4", "-2/4", "4/2", "-6/3",
    "1/02", "01/2", "1/2/3", "1//2", "1 /2", "1/ 2", "1 / 2", "1/2 ", " 1/2", "1/1 1", "1 2/4 3", "one", "None", "nil",
    "Nought", "NOUGHT", "nought ", " nought", "nought nought", "nought 1", "1 nought", "None", "NONE", "none ", " none",
    "none none", "none 1", "1:", ":1", "1::2", "1:2:3", "1 : 2", "1: 2", "1 :2", "1:2 ", " 1:2", "1:2  3:4", "1:2 3",
    "3 1:2", "1:2,3:4", "1,2", "1;2", "1:0", "1:-1", "1:-1/2", "1:0 2:1", "0:1 1:0", "2:1 1:1", "1:1 1:1", "1:1 1:2",
    "0:1 -1:1", "1/2:1 1/3:1", "1:1 2:1 2:1", "1:1/1", "1/1:1", "-0:1", "1:-0", "1:+1", "1:2/4", "2/4:1", "1:01", "01:1",
    "0:1 none", "none 0:1", "\u0661", "\u0663/\u0664", "1\u0662", "\uff11", "1/\uff12", "\u00b2", "\u00bd", "\u2460",
    "\u22121", "\u20131", "\u2014", "1\u20442", "1\u22152", "\u0967", "\u4e00", "\ud800", "1\x00", "\x001", "1\u0300",
    "(1, 1)", "[1]", "1L", "1j", "inf", "nan", "True",
)


def is_fraction_text(text):
    """Whether a fraction is so written, sign by sign."""
    match = FRACTION.match(text)
    if match is None:
        return False
    if match[2] is None:
        return True
    told = Fraction(int(match[1]), int(match[2]))
    return match[2] != "1" and told.denominator == int(match[2])


def value_of(text):
    """Python's own fraction of a text."""
    return Fraction(text)


def is_sums_text(text):
    """Whether sums are so written."""
    return all(is_fraction_text(word) for word in text.split(" "))


def is_polynomial_text(text):
    """Whether a polynomial is so written."""
    return text == "nought" or is_sums_text(text) and text.split(" ")[-1] != "0"


def is_crowd_text(text):
    """Whether a crowd is so written."""
    if text == "none":
        return True
    parts = [word.split(":") for word in text.split(" ")]
    if not all(len(part) == 2 and is_fraction_text(part[0]) and is_fraction_text(part[1]) for part in parts):
        return False
    spots = [value_of(spot) for spot, _ in parts]
    return spots == sorted(set(spots)) and all(value_of(weight) > 0 for _, weight in parts)


RIGHT = dict(zip(READERS, (is_fraction_text, is_sums_text, is_polynomial_text, is_crowd_text)))
WRITERS = dict(zip(READERS, (fraction_text, sums_text, polynomial_text, crowd_text)))


def some_texts(chance):
    """Texts of each kind."""
    figures = chance.choice((1, 2, 60))
    return [
        fraction_text(some_fraction(chance, figures)),
        sums_text([some_fraction(chance, figures) for _ in range(chance.randint(1, 5))]),
        polynomial_text(some_polynomial(chance, chance.randint(0, 5), figures)),
        crowd_text(some_crowd(chance, chance.randint(0, 4), figures)),
    ]


def bent_texts(chance, text):
    """The text with a sign out, put in, another one; a word out, twice, or exchanged with the next."""
    place = chance.randint(0, len(text))
    sign = chance.choice("0123456789-/: +.\t")
    words = text.split(" ")
    at = chance.randrange(len(words))
    return [
        text[:place] + text[place + 1:], text[:place] + sign + text[place:], text[:place] + sign + text[place + 1:],
        " ".join(words[:at] + words[at + 1:]), " ".join(words[:at + 1] + words[at:]),
        " ".join(words[:at] + words[at + 1:at + 2] + [words[at]] + words[at + 2:]), text + " ", " " + text, "+" + text,
        "0" + text, "-" + text, text + "0", text + "/1", text + " 0", text.replace(" ", "  ", 1), text.replace("/", "/0", 1),
        text.replace(":", ":-", 1), text.replace(":", "/", 1), text.replace("/", ":", 1), text + " " + text,
    ]


class TestWritten(unittest.TestCase):
    def test_fractions(self):
        self.assertEqual(fraction_text((0, 1)), "0")
        self.assertEqual(fraction_text((7, 1)), "7")
        self.assertEqual(fraction_text((-12, 1)), "-12")
        self.assertEqual(fraction_text((1, 2)), "1/2")
        self.assertEqual(fraction_text((-10, 21)), "-10/21")

    def test_sums(self):
        self.assertEqual(sums_text(poly(0)), "0")
        self.assertEqual(sums_text(poly(1, "-1/2", 0)), "1 -1/2 0")

    def test_polynomials(self):
        self.assertEqual(polynomial_text([]), "nought")
        self.assertEqual(polynomial_text(poly(5)), "5")
        self.assertEqual(polynomial_text(poly(0, "-2/3", 1)), "0 -2/3 1")

    def test_crowds(self):
        self.assertEqual(crowd_text([]), "none")
        self.assertEqual(crowd_text(crowd(("-1/2", 3))), "-1/2:3")
        self.assertEqual(crowd_text(crowd((-1, "1/2"), (0, 1), ("4/3", 2))), "-1:1/2 0:1 4/3:2")
        many = crowd_added(crowd(*[(k, 1) for k in range(6)]), crowd(*[(10 * k, 1) for k in range(6)]))
        self.assertEqual(crowd_text(many), " ".join(f"{10 * k + j}:1" for k in range(6) for j in range(6)))
        self.assertEqual(read_crowd(crowd_text(many)), many)


class TestRead(unittest.TestCase):
    def test_plain_ones(self):
        self.assertEqual(read_fraction("-3/4"), (-3, 4))
        self.assertEqual(read_fraction("0"), (0, 1))
        self.assertEqual(read_sums("0"), poly(0))
        self.assertEqual(read_sums("1 0 -1/2 0"), poly(1, 0, "-1/2", 0))
        self.assertEqual(read_polynomial("nought"), [])
        self.assertEqual(read_polynomial("0 1/3"), poly(0, "1/3"))
        self.assertEqual(read_crowd("none"), [])
        self.assertEqual(read_crowd("-1:1/2 0:1 4/3:2"), crowd((-1, "1/2"), (0, 1), ("4/3", 2)))

    def test_each_kind_written_and_read_again(self):
        chance = random.Random(90)
        for turn in range(100):
            figures = chance.choice((1, 2, 60))
            number = some_fraction(chance, figures)
            self.assertEqual(read_fraction(fraction_text(number)), number)
            sums = [some_fraction(chance, figures) for _ in range(chance.randint(1, 11))]
            self.assertEqual(read_sums(sums_text(sums)), sums)
            f = some_polynomial(chance, chance.randint(0, 13), figures)
            self.assertEqual(read_polynomial(polynomial_text(f)), f)
            drawn = some_crowd(chance, chance.randint(0, 6), figures)
            self.assertEqual(read_crowd(crowd_text(drawn)), drawn)

    def test_bad_texts(self):
        for text in BAD_TEXTS:
            for read in READERS:
                if not RIGHT[read](text):
                    with self.assertRaises(NoText, msg=(read.__name__, text)):
                        read(text)
            self.assertFalse(is_fraction_text(text) or is_crowd_text(text) or is_polynomial_text(text), text)

    def test_texts_for_one_reader_and_not_for_another(self):
        for text, right in (("1", "fsp"), ("0", "fs"), ("nought", "p"), ("none", "c"), ("1 2", "sp"), ("1 0", "s"),
                            ("0 0 1/2", "sp"), ("1:2", "c"), ("0:1 1:1", "c"), ("-1/2", "fsp")):
            for letter, read in zip("fspc", READERS):
                if letter in right:
                    self.assertEqual(WRITERS[read](read(text)), text)
                else:
                    with self.assertRaises(NoText):
                        read(text)

    def test_other_things_than_texts(self):
        for thing in NO_TEXTS:
            for read in READERS:
                with self.assertRaises(NoText):
                    read(thing)

    def test_bent_texts(self):
        chance = random.Random(91)
        kinds = set()
        for turn in range(250):
            for text in some_texts(chance):
                for bent in bent_texts(chance, text):
                    self.each_reader(bent, kinds)
        self.assertEqual(len(kinds), 8)

    def each_reader(self, text, kinds):
        """Each reader reads the text to what is so written, or refuses it where nothing of its kind is."""
        for read in READERS:
            right = RIGHT[read](text)
            kinds.add((read.__name__, right))
            if right:
                self.assertEqual(WRITERS[read](read(text)), text)
            else:
                with self.assertRaises(NoText, msg=(read.__name__, text)):
                    read(text)

    def test_sixty_figures_and_two_thousand_signs(self):
        long_one = "9" * 60
        self.assertEqual(read_fraction(long_one), (10 ** 60 - 1, 1))
        self.assertEqual(read_fraction("-" + long_one + "/" + "1" + "0" * 59), (1 - 10 ** 60, 10 ** 59))
        with self.assertRaises(NoText):
            read_fraction(long_one + "/" + "3" * 60)
        text = " ".join(["1"] * 1000)
        self.assertEqual(read_sums(text), poly(1) * 1000)
        self.assertEqual(read_polynomial(text), poly(1) * 1000)
        text = " ".join(f"{k}:1" for k in range(300))
        self.assertEqual(len(read_crowd(text)), 300)

    def test_spots_by_their_size_and_not_by_their_signs(self):
        self.assertEqual([py(spot) for spot, _ in read_crowd("-10:1 -9:1 -1/2:1 1/3:1 1/2:1 9:1 10:1")][0], -10)
        for text in ("10:1 9:1", "-9:1 -10:1", "1/2:1 1/3:1", "-1/3:1 -1/2:1"):
            with self.assertRaises(NoText):
                read_crowd(text)

    def test_what_was_read_is_new_each_time(self):
        for read, text in ((read_sums, "1 2"), (read_polynomial, "nought"), (read_polynomial, "1"), (read_crowd, "none")):
            one = read(text)
            one.append((5, 1))
            self.assertEqual(WRITERS[read](read(text)), text)


if __name__ == "__main__":
    unittest.main()
