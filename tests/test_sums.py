"""Point 23: the worth of a polynomial by sums, and square sums."""

import random
import unittest
from fractions import Fraction

from momentwright.crowds import sums_of
from momentwright.errors import NoSums
from momentwright.sums import square_sum, worth
from support import crowd, our, poly, product, py, some_crowd, some_fraction, some_polynomial, value


def worth_by_hand(sums, f):
    """The numbers of f, each times the sum at its place, together."""
    return our(sum((py(one) * py(other) for one, other in zip(f, sums)), Fraction(0)))


class TestWorth(unittest.TestCase):
    def test_plain_ones(self):
        sums = poly(2, "1/3", -1)
        self.assertEqual(worth(sums, poly(1)), (2, 1))
        self.assertEqual(worth(sums, poly(0, 1)), (1, 3))
        self.assertEqual(worth(sums, poly("1/2", 3, -2)), (4, 1))
        self.assertEqual(worth(sums, poly(-1, 6)), (0, 1))

    def test_nought_is_worth_0(self):
        self.assertEqual(worth(poly(7), []), (0, 1))
        self.assertEqual(worth(poly("1/2", 3), []), (0, 1))

    def test_drawn_ones_of_all_sizes(self):
        chance = random.Random(4)
        for many in range(1, 14):
            for numbers in range(many + 1):
                sums = [some_fraction(chance, 20) for _ in range(many)]
                f = some_polynomial(chance, numbers, 20)
                self.assertEqual(worth(sums, f), worth_by_hand(sums, f))

    def test_all_sums_0_but_the_last(self):
        for many in (1, 2, 11):
            sums = poly(*[0] * (many - 1), "3/5")
            self.assertEqual(worth(sums, poly(*[1] * many)), (3, 5))
            self.assertEqual(worth(sums, poly(*[1] * (many - 1))), (0, 1))

    def test_one_number_more_than_sums_is_refused(self):
        for many in range(1, 12):
            sums = [(1, 1)] * many
            self.assertEqual(worth(sums, poly(*[1] * many)), (many, 1))
            for more in (1, 2):
                with self.assertRaises(NoSums):
                    worth(sums, poly(*[1] * (many + more)))
                with self.assertRaises(NoSums):
                    worth(sums, poly(*[0] * (many + more - 1), 1))

    def test_by_the_sums_of_a_crowd(self):
        chance = random.Random(5)
        for turn in range(40):
            drawn = some_crowd(chance, turn % 7, 4)
            f = some_polynomial(chance, turn % 6, 4)
            wanted = sum((py(weight) * value(f, py(spot)) for spot, weight in drawn), Fraction(0))
            self.assertEqual(worth(sums_of(drawn, 6), f), our(wanted))


class TestSquareSum(unittest.TestCase):
    def test_plain_ones(self):
        sums = poly(2, "1/3", -1)
        self.assertEqual(square_sum(sums, poly(1), poly(1)), (2, 1))
        self.assertEqual(square_sum(sums, poly(0, 1), poly(0, 1)), (-1, 1))
        self.assertEqual(square_sum(sums, poly(1, 1), poly(-1, 1)), (-3, 1))
        self.assertEqual(square_sum(sums, poly(1, 1), poly(3)), (7, 1))

    def test_drawn_ones(self):
        chance = random.Random(6)
        for turn in range(150):
            many = chance.randint(1, 11)
            sums = [some_fraction(chance, 9) for _ in range(many)]
            numbers = chance.randint(0, many)
            f = some_polynomial(chance, numbers, 9)
            g = some_polynomial(chance, chance.randint(0, many + 1 - numbers), 9)
            self.assertEqual(square_sum(sums, f, g), worth_by_hand(sums, product(f, g)))
            self.assertEqual(square_sum(sums, g, f), square_sum(sums, f, g))

    def test_nought_with_one_of_many_numbers(self):
        many = poly(*range(1, 14))
        self.assertEqual(square_sum(poly(1), [], many), (0, 1))
        self.assertEqual(square_sum(poly(1), many, []), (0, 1))
        self.assertEqual(square_sum(poly(1), [], []), (0, 1))

    def test_just_as_many_numbers_as_sums_and_one_more(self):
        for many in range(1, 12):
            sums = [(k + 1, 1) for k in range(many)]
            for numbers in range(1, many + 1):
                f, g = poly(*[1] * numbers), poly(*[0] * (many - numbers), 1)
                self.assertEqual(square_sum(sums, f, g), worth_by_hand(sums, product(f, g)))
                with self.assertRaises(NoSums):
                    square_sum(sums, f + [(1, 1)], g)
                with self.assertRaises(NoSums):
                    square_sum(sums, f, [(0, 1)] + g)

    def test_no_square_sum_by_the_sums_of_a_crowd_is_below_0(self):
        chance = random.Random(7)
        for turn in range(60):
            sums = sums_of(some_crowd(chance, turn % 7, 3), 11)
            f = some_polynomial(chance, chance.randint(0, 6), 3)
            self.assertGreaterEqual(square_sum(sums, f, f)[0], 0)
        two = sums_of(crowd((1, 3), (2, 5)), 5)
        self.assertEqual(square_sum(two, poly(2, -3, 1), poly(2, -3, 1)), (0, 1))


if __name__ == "__main__":
    unittest.main()
