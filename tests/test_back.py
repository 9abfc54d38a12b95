"""Points 53 and 54, and point 4 as far as it speaks of them: bars, and back from sums."""

import random
import unittest

from momentwright.back import back, bars
from momentwright.crowds import sums_of
from momentwright.flocks import crowd_of, flock_of, flock_sums, is_flock
from support import (
    bars_by_hand, cross, crowd, drawn_sums, flock_sums_by_hand, is_flock_by_hand, nested, our, poly, py, some_crowd,
    some_fraction, some_polynomial, sums_by_hand, with_roots,
)

EMPTY = (poly(1), [])

OTHER_THINGS = (
    None, True, False, 0, 1, "", "below", "nought", [], {}, (), ("below",), ("nought",), ("below", None), ("below", 1),
    ("below", "f"), ("below", ()), ("below", {}), ("below", [1]), ("below", [None]), ("below", [[0, 1]]),
    ("nought", None, None), ("nought", [], None), ("nought", None, []), ("nought", {}, {}), (None, None), (1, 2, 3),
    ([], []), ({}, [], []), ("flock", EMPTY), ("flock", [], []), {"below": poly(1)}, nested(20), (nested(19), []),
    ("below", nested(19)), ("nought", poly(1), nested(19)), (["below"], poly(1)), (True, poly(1)), (b"below", poly(1)),
)

# Sums of flocks whose roots are no fractions.
FLOCKS = (
    (poly(-2, 0, 1), poly(3, 2)), (poly(-1, -1, 1), poly("1/2", "1/3")), (poly(1, -3, 0, 1), poly(5, 1, "1/7")),
    (cross(poly(-2, 0, 1), poly(-3, 0, 1)), poly(9, 1, 1)), (cross(poly(-2, 0, 1), poly(0, 1)), poly(1, 0, 1)),
    (cross(poly(-2, 0, 1), poly(-3, 0, 1), poly("-1/2", 1)), poly(9, 1, 1, 0, "1/8")),
)


class TestBars(unittest.TestCase):
    def test_below(self):
        self.assertIs(bars(poly(-1), ("below", poly(1))), True)
        self.assertIs(bars(poly(1), ("below", poly(1))), False)
        self.assertIs(bars(poly(0), ("below", poly(1))), False)
        self.assertIs(bars(poly(-1), ("below", [])), False)
        self.assertIs(bars(poly(1, 2, 1), ("below", poly(-2, 1))), True)
        self.assertIs(bars(poly(1, 2, 1), ("below", poly(0, 1))), False)

    def test_nought(self):
        sums = poly(0, 0, 1)
        self.assertIs(bars(sums, ("nought", poly(1), poly(0, 0, 1))), True)
        self.assertIs(bars(sums, ("nought", poly("-3/2"), poly(5, 2, "1/3"))), True)
        self.assertIs(bars(sums, ("nought", poly(1), poly(0, 1))), False)
        self.assertIs(bars(sums, ("nought", poly(1), [])), False)
        self.assertIs(bars(sums, ("nought", [], poly(0, 0, 1))), False)
        self.assertIs(bars(sums, ("nought", poly(0, 1), poly(0, 1))), False)
        self.assertIs(bars(poly(-1, 0, 1), ("nought", poly(1, 1), poly(1))), True)
        self.assertIs(bars(poly(1, 1), ("nought", poly(1), poly(0, 1))), False)

    def test_a_word_or_a_part_bent(self):
        for bad in (("below",), ("Below", poly(1)), ("nought", poly(1)), ("below", poly(1), poly(1)), poly(1),
                    ["below", poly(1)], ("below", tuple(poly(1))), ("below", [(1, 1), (0, 1)]), ("below", [(2, 2)]),
                    (poly(1), "below"), ("below", [(True, 1)]), ("below", poly(1), []), ("", poly(1)), (None, poly(1)),
                    ("below", poly(1), None)):
            self.assertIs(bars(poly(-1), bad), False, bad)
        good = ("nought", poly(1), poly(0, 1))
        self.assertIs(bars(poly(0, 3), good), True)
        for bad in (list(good), good[:2], good + (poly(1),), ("below",) + good[1:], ("none",) + good[1:],
                    ("nought", poly(0, 1), poly(1)), ("nought", poly(1), poly(0, 1) + [(0, 1)]),
                    ("nought", [(1, 1), (0, 1)], poly(0, 1)), ("nought", poly(1), tuple(poly(0, 1))),
                    ("nought", poly(1), [(0, 1), (2, 2)]), ("nought", tuple(poly(1)), poly(0, 1))):
            self.assertIs(bars(poly(0, 3), bad), False, bad)

    def test_other_things(self):
        for sums in (poly(-1), poly(0, 1), poly(1, 0, 1), poly(*range(11))):
            for thing in OTHER_THINGS:
                self.assertIs(bars(sums, thing), False, thing)

    def test_no_more_numbers_than_there_are_sums(self):
        for many in range(1, 12):
            sums = poly(*[-1] * many)
            for numbers in range(1, 8):
                f = poly(*[0] * (numbers - 1), 1)
                self.assertIs(bars(sums, ("below", f)), 2 * numbers - 1 <= many)
            zeros = poly(*[0] * (many - 1), 1)
            for numbers in range(1, 14):
                g = poly(*[1] * numbers)
                self.assertIs(bars(zeros, ("nought", poly(1), g)), many > 1 and numbers == many)
        # The product of f and g fits here, that of f and f does not.
        self.assertIs(bars(poly(0, 0, 3, 0), ("nought", poly(0, 0, 1), poly(1))), False)
        self.assertIs(bars(poly(0, 0, 3, 0, 0), ("nought", poly(0, 0, 1), poly(1))), True)

    def test_drawn_ones(self):
        chance = random.Random(28)
        kinds = set()
        for turn in range(300):
            sums = drawn_sums(chance, chance.randint(1, 7), 1)
            f = some_polynomial(chance, chance.randint(0, 4), 1)
            g = some_polynomial(chance, chance.randint(0, 4), 1)
            for bar in (("below", f), ("nought", f, g), ("nought", poly(1), g)):
                wanted = bars_by_hand(sums, bar)
                self.assertIs(bars(sums, bar), wanted)
                kinds.add((bar[0], wanted))
        self.assertEqual(len(kinds), 4)


class TestBack(unittest.TestCase):
    def check(self, sums):
        """Whichever is told is so."""
        told = back(sums)
        self.assertIsInstance(told, tuple)
        if told[0] != "flock":
            self.assertIs(bars(sums, told), True)
            self.assertTrue(bars_by_hand(sums, told))
            return told[0]
        word, flock = told
        roots, weights = flock
        self.assertIs(is_flock(flock), True)
        self.assertEqual(flock_sums(flock, len(sums)), sums)
        self.assertEqual(flock_sums_by_hand(roots, weights, len(sums)), sums)
        return word

    def test_plain_ones(self):
        self.assertEqual(back(poly(0)), ("flock", EMPTY))
        self.assertEqual(back(poly(3, 6)), ("flock", (poly(-2, 1), poly(3))))
        self.assertEqual(back(poly(2, 0, 2, 0, 2)), ("flock", (poly(-1, 0, 1), poly(1))))
        self.assertEqual(self.check(poly(3)), "flock")
        self.assertEqual(self.check(poly(-3)), "below")
        self.assertEqual(self.check(poly(0, 3)), "nought")
        self.assertEqual(self.check(poly(1, 2, 1)), "below")
        self.assertEqual(self.check(poly(1, 1, 1, 2)), "nought")
        self.assertEqual(self.check(poly(1, 1, 1, 1)), "flock")

    def test_sums_all_0_and_all_0_but_the_last(self):
        for many in range(1, 12):
            self.assertEqual(back(poly(*[0] * many)), ("flock", EMPTY))
            for last in (1, -1, "2/3"):
                word = self.check(poly(*[0] * (many - 1), last))
                self.assertEqual(word, "nought" if many > 1 else "below" if last == -1 else "flock")

    def test_the_sums_of_a_crowd_have_a_flock(self):
        chance = random.Random(29)
        for spots in range(7):
            for many in range(1, 12):
                for figures in (1, 2):
                    self.assertEqual(self.check(sums_by_hand(some_crowd(chance, spots, figures), many)), "flock")

    def test_enough_sums_lead_back_to_this_crowd_alone(self):
        chance = random.Random(30)
        for spots in range(7):
            for figures in (1, 3, 12):
                drawn = some_crowd(chance, spots, figures)
                for many in range(2 * spots + 1, 14):
                    told = back(sums_of(drawn, many))
                    self.assertEqual(told, ("flock", flock_of(drawn)))
                    self.assertEqual(crowd_of(told[1]), drawn)

    def test_twice_as_many_sums_as_spots_lead_back_too_with_as_few_roots(self):
        chance = random.Random(31)
        for spots in range(1, 6):
            drawn = some_crowd(chance, spots, 2)
            self.assertEqual(back(sums_of(drawn, 2 * spots)), ("flock", flock_of(drawn)))

    def test_one_sum_changed(self):
        chance = random.Random(32)
        for spots in range(6):
            drawn = some_crowd(chance, spots, 1)
            for many in sorted({2 * spots, 2 * spots + 1, 2 * spots + 2, 2 * spots + 4}):
                for place in range(many):
                    sums = sums_by_hand(drawn, many)
                    sums[place] = our(py(sums[place]) + chance.choice((1, -1, 20)))
                    word = self.check(sums)
                    if place > 0 and place == many - 1 and many > 2 * spots + 1:
                        self.assertNotEqual(word, "flock")

    def test_drawn_ones(self):
        chance = random.Random(33)
        words = set()
        for turn in range(300):
            words.add(self.check(drawn_sums(chance, chance.randint(1, 11), chance.choice((1, 2)))))
        self.assertEqual(words, {"flock", "below", "nought"})

    def test_sums_of_flocks_whose_roots_are_no_fractions(self):
        for roots, weights in FLOCKS:
            spots = len(roots) - 1
            for many in range(1, 12):
                sums = flock_sums_by_hand(roots, weights, many)
                self.assertEqual(self.check(sums), "flock")
                if many >= 2 * spots:
                    self.assertEqual(back(sums), ("flock", (roots, weights)))

    def test_what_is_told_is_a_flock_by_hand_too(self):
        chance = random.Random(34)
        for turn in range(12):
            sums = sums_by_hand(some_crowd(chance, 6, 1), chance.randint(1, 7))
            word, flock = back(sums)
            self.assertTrue(is_flock_by_hand(flock[0], flock[1]))

    def test_eleven_open_sums_have_a_flock_of_six_roots(self):
        roots, weights = back([our(py((1, k + 1))) for k in range(11)])[1]
        self.assertEqual(len(roots), 7)
        self.assertEqual(flock_sums_by_hand(roots, weights, 11), [(1, k + 1) for k in range(11)])

    def test_a_sum_behind_tight_ones_is_barred_but_the_one(self):
        sums = sums_of(crowd((-1, 1), (2, "1/2")), 6)
        self.assertEqual(self.check(sums), "flock")
        for k in range(5, 6):
            for by in ("1/1000000", "-1/1000000", 5):
                changed = sums[:k] + [our(py(sums[k]) + py(poly(by)[0]))]
                self.assertNotEqual(self.check(changed), "flock")
        self.assertEqual(back(sums)[1][0], with_roots(-1, 2))

    def test_numbers_of_forty_figures(self):
        chance = random.Random(35)
        self.assertEqual(self.check([some_fraction(chance, 40) for _ in range(11)]) in ("below", "flock"), True)
        drawn = some_crowd(chance, 3, 40)
        self.assertEqual(back(sums_of(drawn, 7)), ("flock", flock_of(drawn)))


if __name__ == "__main__":
    unittest.main()
