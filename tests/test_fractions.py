"""Fractions: points 2, 3 and 11."""

import random
import unittest

from momentwright.errors import MomentError, NoFraction
from momentwright.fractions import is_fraction, is_less, minus, over, plus, ratio, times
from support import nested, our, py, some_fraction, some_whole

FORTY = 10 ** 40 - 1

FRACTIONS = (
    (0, 1), (1, 1), (-1, 1), (1, 2), (-1, 2), (7, 3), (-7, 3), (6, 35), (-35, 6),
    (FORTY, 1), (-FORTY, 1), (1, FORTY), (-1, FORTY), (FORTY, FORTY - 1), (1 - FORTY, FORTY),
)

NO_FRACTIONS = (
    None, True, False, 0, 1, -3, "", "1", "1/2", "ab", [], [1, 2], [0, 1], {}, {1: 2}, {0: 1, 1: 2}, {"top": 1},
    (), (1,), (1, 2, 1), (1, 2, 3, 4), ((1, 2),), ((1, 2), (1, 2)), ([1, 2], 1), (1, [2]), ({}, 1), (1, {}),
    (1, 0), (0, 0), (-1, 0), (1, -1), (1, -2), (-1, -2), (0, -1),
    (2, 4), (-2, 4), (2, 2), (0, 2), (0, FORTY), (6, 3), (FORTY, FORTY), (3 * FORTY, 9), (-10 ** 40, 10 ** 39),
    (True, 1), (False, 1), (1, True), (0, True), (True, True), (2, True), (True, 2),
    (None, 1), (1, None), (None, None), ("1", 2), (1, "2"), ("1", "2"), ("", ""), "ab", "12",
    nested(20), (nested(19), 1), (1, nested(19)),
)


class TestIsFraction(unittest.TestCase):
    def test_fractions_are(self):
        for thing in FRACTIONS:
            self.assertIs(is_fraction(thing), True, thing)

    def test_other_things_are_not(self):
        for thing in NO_FRACTIONS:
            self.assertIs(is_fraction(thing), False, thing)

    def test_lowest_terms_of_made_up_numbers(self):
        chance = random.Random(11)
        for _ in range(300):
            top, bottom = some_whole(chance, 40), abs(some_whole(chance, 40))
            lowest = bottom > 0 and our(py((top, bottom))) == (top, bottom)
            self.assertIs(is_fraction((top, bottom)), lowest, (top, bottom))

    def test_what_is_greater_than_may_be_handed_in(self):
        self.assertIs(is_fraction((3 ** 2000, 2 ** 3000)), True)
        self.assertIs(is_fraction((3 ** 2000 * 7, 2 ** 3000 * 7)), False)


class TestRatio(unittest.TestCase):
    def test_known_ones(self):
        rows = (
            (6, 4, (3, 2)), (-6, 4, (-3, 2)), (6, -4, (-3, 2)), (-6, -4, (3, 2)), (0, 5, (0, 1)), (0, -5, (0, 1)),
            (5, 1, (5, 1)), (5, -1, (-5, 1)), (7, 7, (1, 1)), (7, -7, (-1, 1)), (1, 9, (1, 9)), (-1, 9, (-1, 9)),
        )
        for top, bottom, told in rows:
            self.assertEqual(ratio(top, bottom), told, (top, bottom))

    def test_made_up_ones(self):
        chance = random.Random(12)
        for _ in range(300):
            top, bottom = some_whole(chance, 40), some_whole(chance, 40) or 1
            self.assertEqual(ratio(top, bottom), our(py((top, bottom))))

    def test_by_0_is_refused(self):
        for top in (0, 1, -1, FORTY, -FORTY):
            with self.assertRaises(NoFraction):
                ratio(top, 0)


class TestReckoning(unittest.TestCase):
    def check(self, one, other):
        x, y = py(one), py(other)
        self.assertEqual(plus(one, other), our(x + y))
        self.assertEqual(minus(one, other), our(x - y))
        self.assertEqual(times(one, other), our(x * y))
        self.assertIs(is_less(one, other), x < y)
        if y == 0:
            with self.assertRaises(NoFraction):
                over(one, other)
        else:
            self.assertEqual(over(one, other), our(x / y))

    def test_all_pairs_of_known_ones(self):
        for one in FRACTIONS:
            for other in FRACTIONS:
                self.check(one, other)

    def test_made_up_ones(self):
        chance = random.Random(13)
        for _ in range(500):
            self.check(some_fraction(chance, 40), some_fraction(chance, 40))

    def test_what_was_told_may_be_handed_in_again(self):
        chance = random.Random(14)
        for _ in range(20):
            one = other = (1, 1)
            for _ in range(10):
                one = times(plus(one, some_fraction(chance, 40)), some_fraction(chance, 40))
                other = times(minus(other, some_fraction(chance, 40)), some_fraction(chance, 40))
            self.check(one, other)

    def test_plain_examples(self):
        self.assertEqual(plus((1, 2), (1, 3)), (5, 6))
        self.assertEqual(plus((1, 2), (1, 2)), (1, 1))
        self.assertEqual(minus((1, 2), (1, 3)), (1, 6))
        self.assertEqual(minus((1, 2), (1, 2)), (0, 1))
        self.assertEqual(times((2, 3), (3, 2)), (1, 1))
        self.assertEqual(times((-2, 3), (0, 1)), (0, 1))
        self.assertEqual(over((1, 2), (-3, 4)), (-2, 3))
        self.assertEqual(over((0, 1), (-3, 4)), (0, 1))

    def test_over_0_is_refused_also_of_0(self):
        for one in FRACTIONS:
            with self.assertRaises(NoFraction):
                over(one, (0, 1))

    def test_less_is_never_so_of_the_same(self):
        for one in FRACTIONS:
            self.assertIs(is_less(one, one), False)

    def test_less_is_told_of_neighbours(self):
        low, high = (FORTY - 1, FORTY), (FORTY, FORTY + 1)
        self.assertIs(is_less(low, high), True)
        self.assertIs(is_less(high, low), False)
        self.assertIs(is_less((-high[0], high[1]), (-low[0], low[1])), True)


class TestPromisesOfAll(unittest.TestCase):
    def test_asked_again_it_is_the_same(self):
        for one in FRACTIONS:
            for ask in (plus, minus, times, is_less):
                self.assertEqual(ask(one, (3, 7)), ask(one, (3, 7)))
            self.assertEqual(over(one, (3, 7)), over(one, (3, 7)))

    def test_a_refusal_changes_nothing(self):
        for _ in range(2):
            with self.assertRaises(MomentError):
                ratio(1, 0)
            with self.assertRaises(MomentError):
                over((1, 2), (0, 1))
            self.assertEqual(ratio(1, 2), (1, 2))
            self.assertEqual(over((1, 2), (1, 3)), (3, 2))

    def test_a_thing_that_is_no_fraction_stays_as_it_was(self):
        thing = [1, [2, {"a": [3]}]]
        self.assertIs(is_fraction(thing), False)
        self.assertIs(is_fraction((thing, 1)), False)
        self.assertEqual(thing, [1, [2, {"a": [3]}]])


if __name__ == "__main__":
    unittest.main()
