"""Points 91 to 94, and point 4 as far as it speaks of them: from a spot on."""

import random
import unittest
from fractions import Fraction
from math import comb, floor

from momentwright.back import back
from momentwright.chains import how_many
from momentwright.crowds import sums_of
from momentwright.flocks import flock_of, is_flock
from momentwright.onward import back_from, bar_from_holds, even_sums, sums_from
from support import (
    BARRED, FLOCKS, bars_by_hand, cross, crowd, drawn_sums, flock_sums_by_hand, nested, our, poly, py, real_roots,
    some_crowd, some_fraction, some_polynomial, sums_by_hand, value,
)

EMPTY = (poly(1), [])
TINY = Fraction(1, 10 ** 12)
OTHER_THINGS = (
    None, True, False, 0, 1, "", "below", [], {}, (), (0,), (1,), ("below",), ("below", 0), ("below", 1), ("nought", 1),
    ("below", poly(1)), ("below", None, 0), ("below", 0, 0), ("below", [1], 1), ("below", [None], 0), (None, None, 0),
    ("nought", [], 0), ("nought", None, None, 1), ("nought", [], None, 0), ("nought", None, [], 0), (0, 0, 0), (1, 1, 1),
    ([], [], [], 0), ({}, {}, 1), ("flock", EMPTY), ("flock", EMPTY, 0), {"below": poly(1)}, nested(20),
    (nested(19), 0), ("below", nested(19), 0), ("nought", poly(1), nested(19), 1), ("below", poly(1), nested(19)),
    ["below", poly(1), 0], (poly(1), "below", 0), (0, "below", poly(1)),
)


def from_by_hand(sums, spot):
    """The sums from a fraction on."""
    return [our(py(sums[k + 1]) - py(spot) * py(sums[k])) for k in range(len(sums) - 1)]


def holds_by_hand(sums, spot, bar):
    """Whether a tuple of a word, polynomials and 0 or 1 is a right bar from the spot on."""
    if bar[-1] == 1:
        return len(sums) > 1 and bars_by_hand(from_by_hand(sums, spot), bar[:-1])
    return bar[-1] == 0 and bars_by_hand(sums, bar[:-1])


def below_spot(roots, spot):
    """How many roots are below the spot."""
    at_it = 1 if value(roots, py(spot)) == 0 else 0
    return how_many(roots, None, spot) - at_it


class TestSumsFrom(unittest.TestCase):
    def test_plain_ones(self):
        self.assertEqual(sums_from(poly(1, 2, 5), (0, 1)), poly(2, 5))
        self.assertEqual(sums_from(poly(1, 2, 5), (2, 1)), poly(0, 1))
        self.assertEqual(sums_from(poly("1/2", "1/3"), (1, 5)), poly("7/30"))
        self.assertEqual(sums_from(poly(0, 0), (7, 1)), poly(0))

    def test_drawn_ones(self):
        chance = random.Random(70)
        for turn in range(120):
            sums = drawn_sums(chance, chance.randint(2, 11), chance.choice((1, 2, 40)))
            spot = some_fraction(chance, chance.choice((1, 40)))
            self.assertEqual(sums_from(sums, spot), from_by_hand(sums, spot))

    def test_of_a_crowd_each_weight_goes_with_how_far_its_spot_is(self):
        chance = random.Random(71)
        for spots in range(7):
            drawn = some_crowd(chance, spots, 2)
            spot = some_fraction(chance, 2)
            moved = [(one, our(py(weight) * (py(one) - py(spot)))) for one, weight in drawn]
            self.assertEqual(sums_from(sums_of(drawn, 8), spot), sums_by_hand(moved, 7))


class TestBackFrom(unittest.TestCase):
    def check(self, sums, spot):
        """Whichever is told is right."""
        told = back_from(sums, spot)
        self.assertIsInstance(told, tuple)
        if told[0] != "flock":
            self.assertTrue(holds_by_hand(sums, spot, told), told)
            self.assertIs(bar_from_holds(sums, spot, told), True)
            self.assertIs(type(told[-1]), int)
            return told[0] + str(told[-1])
        word, flock = told
        self.assertIs(is_flock(flock), True)
        self.assertEqual(flock_sums_by_hand(flock[0], flock[1], len(sums)), sums)
        self.assertEqual(below_spot(flock[0], spot), 0)
        return word

    def test_plain_ones(self):
        self.assertEqual(back_from(poly(0), (5, 1)), ("flock", EMPTY))
        self.assertEqual(self.check(poly(3), (5, 1)), "flock")
        self.assertEqual(self.check(poly(-3), (5, 1)), "below0")
        self.assertEqual(self.check(poly(1, 2), (2, 1)), "flock")
        self.assertEqual(self.check(poly(1, 2), (1, 1)), "flock")
        self.assertEqual(self.check(poly(1, 2), (3, 1)), "below1")
        self.assertEqual(self.check(poly(1, 2, 5), (2, 1)), "nought1")
        self.assertEqual(self.check(poly(1, 2, 4), (2, 1)), "flock")
        self.assertEqual(self.check(poly(0, 1), (2, 1)), "nought0")
        self.assertEqual(self.check(poly(2, 0, 2, 0, 2), (-1, 1)), "flock")
        self.assertEqual(self.check(poly(2, 0, 2, 0, 2), (-1, 2)), "below1")

    def test_sums_all_0_and_all_0_but_the_last(self):
        for many in range(1, 12):
            self.assertEqual(back_from(poly(*[0] * many), (-1, 3)), ("flock", EMPTY))
            for last in (1, -1, "2/3"):
                word = self.check(poly(*[0] * (many - 1), last), (-1, 3))
                self.assertEqual(word, "nought0" if many > 1 else "below0" if last == -1 else "flock")

    def test_sums_of_a_crowd(self):
        chance = random.Random(72)
        for spots in range(1, 7):
            drawn = some_crowd(chance, spots, 1)
            least, greatest = py(drawn[0][0]), py(drawn[-1][0])
            for many in range(1, 12):
                sums = sums_by_hand(drawn, many)
                for spot in (least, least - TINY, least - 3):
                    self.assertEqual(self.check(sums, our(spot)), "flock")
                for spot in (least + TINY, greatest):
                    word = self.check(sums, our(spot))
                    if many > 2 * spots:
                        self.assertEqual(word == "flock", spots == 1 and spot == greatest)
                if many > 1:
                    self.assertNotEqual(self.check(sums, our(greatest + 1)), "flock")

    def test_tight_sums_lead_back_to_their_crowd(self):
        chance = random.Random(73)
        for spots in range(6):
            drawn = some_crowd(chance, spots, 2)
            spot = drawn[0][0] if drawn else (0, 1)
            for many in range(2 * spots + 1, 12):
                self.assertEqual(back_from(sums_of(drawn, many), spot), ("flock", flock_of(drawn)))

    def test_one_sum_changed_and_drawn_ones(self):
        chance = random.Random(74)
        words = set()
        for turn in range(260):
            sums = drawn_sums(chance, chance.randint(1, 11), 1)
            words.add(self.check(sums, some_fraction(chance, 1)))
        for turn in range(120):
            spots = chance.randint(1, 5)
            drawn = some_crowd(chance, spots, 1)
            sums = sums_by_hand(drawn, chance.choice((2 * spots, 2 * spots + 1, 2 * spots + 2)))
            place = chance.randrange(len(sums))
            sums[place] = our(py(sums[place]) + chance.choice((1, -1, TINY, -TINY)))
            words.add(self.check(sums, drawn[0][0]))
        self.assertEqual(words, {"flock", "below0", "nought0", "below1", "nought1"})

    def test_one_root_below_and_the_others_not(self):
        pairs = crowd((-1, TINY), (1, 1), (2, 1), (3, 1), (4, 1))
        for many in (11, 10, 9, 8):
            sums = sums_of(pairs, many)
            self.assertEqual(self.check(sums, (-1, 1)), "flock")
            if many == 11:
                self.assertEqual(self.check(sums, our(TINY - 1))[:5], "below")

    def test_roots_that_are_no_fractions(self):
        for roots, weights in FLOCKS:
            # Right below the least root and right above it, with few figures.
            below = floor(real_roots(roots)[0][0] * 10 ** 6)
            for many in range(1, 12):
                sums = flock_sums_by_hand(roots, weights, many)
                self.assertEqual(self.check(sums, our(Fraction(below, 10 ** 6))), "flock")
                word = self.check(sums, our(Fraction(below + 1, 10 ** 6)))
                if many >= 2 * len(roots) - 1:
                    self.assertNotEqual(word, "flock")

    def test_barred_sums(self):
        for sums in BARRED:
            for spot in ((0, 1), (-10, 1), (3, 1)):
                self.assertNotEqual(self.check(sums, spot), "flock")

    def test_eleven_open_sums(self):
        sums = [(1, k + 1) for k in range(11)]
        self.assertEqual(self.check(sums, (0, 1)), "flock")
        self.assertEqual(len(back_from(sums, (0, 1))[1][0]), 7)
        self.assertEqual(self.check(sums, (1, 1000)), "flock")
        self.assertEqual(self.check(sums, (2, 5)), "below1")
        self.assertEqual(self.check(sums, (1, 2)), "nought1")

    def test_a_flock_or_a_bar_never_both(self):
        chance = random.Random(75)
        for turn in range(60):
            drawn = some_crowd(chance, chance.randint(1, 6), 1)
            sums = sums_by_hand(drawn, chance.randint(1, 7))
            f, g = some_polynomial(chance, chance.randint(0, 3), 1), some_polynomial(chance, chance.randint(0, 3), 1)
            for at in (0, 1):
                self.assertIs(bar_from_holds(sums, drawn[0][0], ("below", f, at)), False)
                self.assertIs(bar_from_holds(sums, drawn[0][0], ("nought", f, g, at)), False)


class TestBarFromHolds(unittest.TestCase):
    def test_plain_ones(self):
        sums = poly(1, 2, 5)
        self.assertIs(bar_from_holds(sums, (3, 1), ("below", poly(1), 1)), True)
        self.assertIs(bar_from_holds(sums, (3, 1), ("below", poly(1), 0)), False)
        self.assertIs(bar_from_holds(sums, (2, 1), ("nought", poly(1), poly(0, 1), 1)), True)
        self.assertIs(bar_from_holds(sums, (2, 1), ("nought", poly(1), poly(0, 1), 0)), False)
        self.assertIs(bar_from_holds(poly(-1), (2, 1), ("below", poly(1), 0)), True)
        self.assertIs(bar_from_holds(poly(-1), (2, 1), ("below", poly(1), 1)), False)
        self.assertIs(bar_from_holds(poly(-1, 0), (0, 1), ("below", poly(1), 1)), False)
        self.assertIs(bar_from_holds(poly(0, 1), (0, 1), ("nought", poly(1), poly(0, 1), 0)), True)

    def test_of_one_sum_there_is_none_from_the_spot_on(self):
        for number in (-1, 0, 1):
            for f in ([], poly(1), poly(0, 1)):
                self.assertIs(bar_from_holds(poly(number), (0, 1), ("below", f, 1)), False)
                self.assertIs(bar_from_holds(poly(number), (0, 1), ("nought", f, f, 1)), False)

    def test_nearly_right_ones(self):
        chance = random.Random(76)
        kinds = set()
        for turn in range(150):
            sums = drawn_sums(chance, chance.randint(1, 9), 1)
            spot = some_fraction(chance, 1)
            told = back_from(sums, spot)
            if told[0] == "flock":
                continue
            at = told[-1]
            for bent in (told[:-1] + (2,), told[:-1] + (-1,), told[:-1] + (at == 1,), told[:-1] + (None,), told[:-1],
                         told[:-1] + ((at, 1),), told[:-1] + (str(at),), list(told), told + (at,), (at,) + told[:-1],
                         ("flock",) + told[1:], (None,) + told[1:], told[:1] + (told[1] + poly(0),) + told[2:],
                         told[:1] + (tuple(told[1]),) + told[2:], told[:1] + ([],) + told[2:],
                         told[:1] + (told[1] + poly(*[0] * 6, 1),) + told[2:], told[:2] + (poly(1),) + told[2:]):
                self.assertIs(bar_from_holds(sums, spot, bent), False, bent)
            for moved in (told[:-1] + (1 - at,), ("below", told[1], at), ("nought", told[1], poly(1), at)):
                wanted = holds_by_hand(sums, spot, moved)
                kinds.add(wanted)
                self.assertIs(bar_from_holds(sums, spot, moved), wanted)
        self.assertEqual(len(kinds), 2)

    def test_drawn_ones(self):
        chance = random.Random(77)
        kinds = set()
        for turn in range(300):
            sums = drawn_sums(chance, chance.randint(1, 7), 1)
            spot = some_fraction(chance, 1)
            f = some_polynomial(chance, chance.randint(0, 3), 1)
            g = some_polynomial(chance, chance.randint(0, 3), 1)
            if chance.random() < 0.3 and len(sums) > 1 and sums[0] != (0, 1):
                spot, f = our(py(sums[1]) / py(sums[0])), poly(1)
            for at in (0, 1):
                for bar in (("below", f, at), ("nought", f, g, at)):
                    wanted = holds_by_hand(sums, spot, bar)
                    kinds.add((bar[0], at, wanted))
                    self.assertIs(bar_from_holds(sums, spot, bar), wanted)
        self.assertGreaterEqual(len(kinds), 7)

    def test_other_things(self):
        for sums in (poly(-1), poly(-1, 1), poly(0, 1), poly(1, 0, 1), poly(*range(11))):
            for thing in OTHER_THINGS:
                self.assertIs(bar_from_holds(sums, (1, 1), thing), False, thing)


class TestEvenSums(unittest.TestCase):
    def test_plain_ones(self):
        self.assertEqual(even_sums(poly(5), (2, 1)), poly(5))
        self.assertEqual(even_sums(poly(1, 2, 5), (0, 1)), poly(1, 0, 2, 0, 5))
        self.assertEqual(even_sums(poly(1, 2, 5), (1, 1)), poly(1, 0, 1, 0, 2))

    def test_by_hand(self):
        chance = random.Random(78)
        for turn in range(80):
            sums = drawn_sums(chance, chance.randint(1, 6), chance.choice((1, 3, 40)))
            spot = some_fraction(chance, chance.choice((1, 3, 40)))
            wanted = [Fraction(0)] * (2 * len(sums) - 1)
            for k in range(len(sums)):
                wanted[2 * k] = sum(comb(k, j) * (-py(spot)) ** (k - j) * py(sums[j]) for j in range(k + 1))
            self.assertEqual(even_sums(sums, spot), [our(number) for number in wanted])

    def test_some_flock_has_them_just_where_there_is_one_from_the_fraction_on(self):
        chance = random.Random(79)
        words = set()
        for turn in range(250):
            sums = drawn_sums(chance, chance.randint(1, 6), 1)
            spot = some_fraction(chance, 1)
            if chance.random() < 0.5:
                drawn = some_crowd(chance, chance.randint(1, 3), 1)
                sums = sums_by_hand(drawn, len(sums))
                spot = chance.choice((drawn[0][0], our(py(drawn[0][0]) + TINY), our(py(drawn[0][0]) - TINY)))
            word = back_from(sums, spot)[0] == "flock"
            words.add((word, len(sums)))
            self.assertIs(back(even_sums(sums, spot))[0] == "flock", word)
        self.assertEqual(len(words), 12)

    def test_squares_of_the_roots_and_the_fraction_come_to_the_roots(self):
        # From 1 on, 1 and 5 are 0 and 2 or -2, squared, and 1.
        told = even_sums(sums_of(crowd((1, 3), (5, 2)), 5), (1, 1))
        self.assertEqual(back(told), ("flock", flock_of(crowd((-2, 1), (0, 3), (2, 1)))))
        # From 0 on, 2 alone is a root of 2 or its opposite, squared.
        told = even_sums(sums_of(crowd((2, 6)), 3), (0, 1))
        self.assertEqual(back(told), ("flock", (poly(-2, 0, 1), poly(3))))
        self.assertEqual(flock_sums_by_hand(cross(poly(-2, 0, 1)), poly(3), 5), told)


if __name__ == "__main__":
    unittest.main()
