"""Points 61 to 64, and point 4 as far as it speaks of them: tight and open sums, and one sum more."""

import random
import unittest
from fractions import Fraction

from momentwright.back import back
from momentwright.crowds import sums_of
from momentwright.errors import NoSums
from momentwright.flocks import flock_sums
from momentwright.more import fewest, is_tight, led_on, next_sum
from support import (
    BARRED, cross, crowd, flock_sums_by_hand, flocks_sums, has_flock, our, poly, py, some_crowd, sums_by_hand,
)


class TestTight(unittest.TestCase):
    def test_plain_ones(self):
        self.assertIs(is_tight(poly(0)), True)
        self.assertIs(is_tight(poly(0, 0, 0)), True)
        self.assertIs(is_tight(poly(5)), False)
        self.assertIs(is_tight(poly(1, 1)), False)
        self.assertIs(is_tight(poly(1, 1, 1)), True)
        self.assertIs(is_tight(poly(1, 1, 2)), False)

    def test_sums_of_a_crowd_are_tight_from_twice_as_many_and_one_on(self):
        chance = random.Random(36)
        for spots in range(6):
            drawn = some_crowd(chance, spots, 3)
            for many in range(1, 12):
                self.assertIs(is_tight(sums_by_hand(drawn, many)), many > 2 * spots)

    def test_refused(self):
        for sums in BARRED:
            with self.assertRaises(NoSums):
                is_tight(sums)


class TestNextSum(unittest.TestCase):
    def test_plain_ones(self):
        self.assertEqual(next_sum(poly(0)), ("just", (0, 1)))
        self.assertEqual(next_sum(poly(0, 0)), ("just", (0, 1)))
        self.assertEqual(next_sum(poly(5)), ("any",))
        self.assertEqual(next_sum(poly(2, 3)), ("from", (9, 2)))
        self.assertEqual(next_sum(poly(1, 2, 4)), ("just", (8, 1)))
        self.assertEqual(next_sum(poly(1, 2, 5)), ("any",))
        self.assertEqual(next_sum(poly(2, 0, 2, 0)), ("from", (2, 1)))
        self.assertEqual(next_sum(poly(2, 0, 2, 0, 2)), ("just", (0, 1)))

    def test_the_sort_goes_by_how_many_they_are(self):
        chance = random.Random(37)
        for spots in range(6):
            drawn = some_crowd(chance, spots, 2)
            for many in range(1, 11):
                told = next_sum(sums_by_hand(drawn, many))
                behind = sums_by_hand(drawn, many + 1)[-1]
                if many > 2 * spots:
                    self.assertEqual(told, ("just", behind))
                elif many & 1:
                    self.assertEqual(told, ("any",))
                else:
                    self.assertEqual(told[0], "from")
                    self.assertEqual(py(told[1]) == py(behind), many == 2 * spots)
                    self.assertLessEqual(py(told[1]), py(behind))

    def test_what_may_come_comes_with_a_flock_and_nothing_else_does(self):
        chance = random.Random(38)
        words = set()
        for turn in range(120):
            sums = flocks_sums(chance, turn % 10 + 1)
            told = next_sum(sums)
            words.add(told[0])
            near = Fraction(1, 10 ** 20)
            if told == ("any",):
                for number in (0, 10 ** 30, -10 ** 30, Fraction(1, 7)):
                    self.assertTrue(has_flock(sums + [our(number)]))
                continue
            word, number = told
            self.assertIn(word, ("just", "from"))
            for by, may in ((0, True), (near, word == "from"), (10 ** 9, word == "from"), (-near, False), (-5, False)):
                self.assertIs(has_flock(sums + [our(py(number) + by)]), may)
        self.assertEqual(words, {"just", "from", "any"})

    def test_roots_that_are_no_fractions(self):
        roots, weights = cross(poly(-2, 0, 1), poly(-3, 0, 1)), poly(9, 1, 1)
        sums = flock_sums_by_hand(roots, weights, 12)
        for many in range(9, 12):
            self.assertEqual(next_sum(sums[:many]), ("just", sums[many]))
        self.assertEqual(next_sum(sums[:8]), ("from", sums[8]))

    def test_refused(self):
        for sums in BARRED:
            with self.assertRaises(NoSums):
                next_sum(sums)


class TestFewest(unittest.TestCase):
    def test_plain_ones(self):
        self.assertEqual([fewest(poly(*[0] * many)) for many in range(1, 12)], [0] * 11)
        inverse = [(1, k + 1) for k in range(11)]
        self.assertEqual([fewest(inverse[:many]) for many in range(1, 12)], [1, 1, 2, 2, 3, 3, 4, 4, 5, 5, 6])

    def test_sums_of_crowds(self):
        chance = random.Random(39)
        for spots in range(7):
            drawn = some_crowd(chance, spots, 2)
            for many in range(1, 12):
                wanted = spots if many > 2 * spots else (many + 1) // 2
                self.assertEqual(fewest(sums_by_hand(drawn, many)), wanted)

    def test_the_flock_that_is_told_has_no_fewer(self):
        chance = random.Random(40)
        for turn in range(60):
            sums = flocks_sums(chance, turn % 11 + 1)
            self.assertGreaterEqual(len(back(sums)[1][0]) - 1, fewest(sums))

    def test_refused(self):
        for sums in BARRED:
            with self.assertRaises(NoSums):
                fewest(sums)


class TestLedOn(unittest.TestCase):
    def test_plain_ones(self):
        self.assertEqual(led_on(poly(5), 0), poly(5))
        self.assertEqual(led_on(poly(5), 10), poly(5, *[0] * 10))
        self.assertEqual(led_on(poly(0), 4), poly(0, 0, 0, 0, 0))
        self.assertEqual(led_on(poly(1, 2), 3), poly(1, 2, 4, 8, 16))
        self.assertEqual(led_on(poly(1, 1, 2), 3), poly(1, 1, 2, 0, 8, -16))

    def test_sums_of_crowds(self):
        chance = random.Random(41)
        for spots in range(6):
            drawn = some_crowd(chance, spots, 2)
            whole = sums_by_hand(drawn, 11)
            for many in range(max(1, 2 * spots), 12):
                self.assertEqual(led_on(whole[:many], 11 - many), whole)

    def test_one_by_one(self):
        chance = random.Random(42)
        for turn in range(60):
            sums = flocks_sums(chance, turn % 10 + 1)
            many = chance.randint(0, 11 - len(sums))
            wanted = list(sums)
            for _ in range(many):
                told = next_sum(wanted)
                wanted.append(told[1] if len(told) > 1 else (0, 1))
            told = led_on(sums, many)
            self.assertEqual(told, wanted)
            self.assertEqual(told[:len(sums)], sums)
            self.assertEqual(flock_sums(back(told)[1], len(told)), told)

    def test_refused_also_by_0(self):
        for sums in BARRED:
            for many in (0, 1, 11 - len(sums)):
                with self.assertRaises(NoSums):
                    led_on(sums, many)

    def test_the_sums_of_one_spot(self):
        self.assertEqual(led_on(sums_of(crowd(("-1/2", 3)), 2), 9), sums_of(crowd(("-1/2", 3)), 11))


if __name__ == "__main__":
    unittest.main()
