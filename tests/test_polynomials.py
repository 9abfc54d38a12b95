"""Polynomials: points 3 and 12."""

import random
import unittest
from fractions import Fraction

from momentwright.polynomials import (
    grown, is_polynomial, led, lessened, multiplied, number_at, slope, summed,
)
from support import cut, nested, our, padded, poly, product, py, some_fraction, some_polynomial, total

FORTY = 10 ** 40 - 1

POLYNOMIALS = (
    [], poly(1), poly(-1), poly("2/3"), poly(0, 1), poly(1, 1), poly(-1, 1), poly(1, -1), poly(0, 0, "-3/4"),
    poly(1, 2, 1), poly(-1, 0, 1), poly("1/2", "-1/3", 0, 5), poly(0, 0, 0, 0, 0, 0, 0, 0, 0, 0, 0, 0, 1),
    poly(FORTY, -FORTY, Fraction(1, FORTY)), poly(*range(1, 14)), poly(Fraction(FORTY, FORTY - 1), 0, -FORTY),
)

NO_POLYNOMIALS = (
    None, True, False, 0, 1, "", "nought", "1 2", (), ((1, 1),), ((1, 1), (1, 2)), {}, {0: (1, 1)}, {(1, 1): 0},
    [0], [1], [1, 2], [True], [False], [None], [""], ["1"], ["ab"], [[]], [{}], [()], [[1, 1]], [[(1, 1)]], [((1, 1),)],
    [(0, 1)], [(1, 1), (0, 1)], [(0, 1), (0, 1)], [(1, 1), (1, 1), (0, 1), (0, 1)],
    [(1, 0)], [(0, 0)], [(1, -1)], [(-1, -2)], [(2, 4)], [(0, 2), (1, 1)], [(1, 1), (2, 2)],
    [(1,)], [(1, 1, 1)], [(1, 1), (1,)], [(1, 2, 3), (1, 1)], [(1, 1), [1, 2]], [[1, 2], (1, 1)],
    [(True, 1)], [(1, True)], [(False, 1), (1, 1)], [(1, 1), (1, True)], [(1, 1), True], [True, (1, 1)],
    [(1, 1), None], [None, (1, 1)], [(1, 1), "1"], [("1", 1)], [(1, "1")], [(None, 1)], [(1, None)], [(1, 1), 1],
    [(1, 1), {}], [{}, (1, 1)], [(1, 1), []], [[], (1, 1)], nested(20), [(1, nested(18))], [(1, 1), nested(19)],
)


def made_up(seed, many):
    """So many pairs of polynomials: of unlike lengths and sizes, nought among them."""
    chance = random.Random(seed)
    pairs = []
    for _ in range(many):
        figures = chance.choice((1, 3, 40))
        pairs.append((
            some_polynomial(chance, chance.randint(0, 13), figures),
            some_polynomial(chance, chance.randint(0, 13), figures),
        ))
    return pairs


PAIRS = [(f, g) for f in POLYNOMIALS for g in POLYNOMIALS] + made_up(21, 150)


class TestIsPolynomial(unittest.TestCase):
    def test_polynomials_are(self):
        for thing in POLYNOMIALS:
            self.assertIs(is_polynomial(thing), True, thing)

    def test_other_things_are_not(self):
        for thing in NO_POLYNOMIALS:
            self.assertIs(is_polynomial(thing), False, thing)

    def test_of_however_many_numbers(self):
        self.assertIs(is_polynomial([(0, 1)] * 2000 + [(1, 3)]), True)
        self.assertIs(is_polynomial([(1, 3)] * 2000 + [(0, 1)]), False)
        self.assertIs(is_polynomial([(1, 3)] * 2000 + [(2, 6)] + [(1, 3)]), False)


class TestReckoning(unittest.TestCase):
    def test_sums(self):
        for f, g in PAIRS:
            told = summed(f, g)
            self.assertEqual(told, total(f, g))
            self.assertIs(is_polynomial(told), True)

    def test_differences(self):
        for f, g in PAIRS:
            told = lessened(f, g)
            many = max(len(f), len(g))
            self.assertEqual(told, cut(one - other for one, other in zip(padded(f, many), padded(g, many))))
            self.assertIs(is_polynomial(told), True)

    def test_products(self):
        for f, g in PAIRS:
            told = multiplied(f, g)
            self.assertEqual(told, product(f, g))
            self.assertIs(is_polynomial(told), True)

    def test_last_numbers_that_come_to_0_are_not_told(self):
        self.assertEqual(summed(poly(1, 2, 3), poly(1, 1, -3)), poly(2, 3))
        self.assertEqual(summed(poly(1, "1/2", "1/3"), poly(1, "-1/2", "-1/3")), poly(2))
        self.assertEqual(summed(poly(1, 2), poly(-1, -2)), [])
        self.assertEqual(lessened(poly(1, 2, 3), poly(1, 1, 3)), poly(0, 1))
        self.assertEqual(lessened(poly(1, 2, 3), poly(1, 2, 3)), [])
        self.assertEqual(multiplied(poly(1, 2, 3), []), [])
        self.assertEqual(multiplied([], poly(1, 2, 3)), [])
        self.assertEqual(grown(poly(1, 2, 3), (0, 1)), [])

    def test_noughts_within_stay(self):
        self.assertEqual(summed(poly(1, 2, 3), poly(-1, -2)), poly(0, 0, 3))
        self.assertEqual(lessened([], poly(0, 1)), poly(0, -1))
        self.assertEqual(multiplied(poly(-1, 1), poly(1, 1)), poly(-1, 0, 1))

    def test_two_noughts(self):
        self.assertEqual(summed([], []), [])
        self.assertEqual(lessened([], []), [])
        self.assertEqual(multiplied([], []), [])

    def test_so_many_times(self):
        chance = random.Random(22)
        for f, _ in PAIRS:
            for by in ((0, 1), (1, 1), (-1, 1), (-5, 7), some_fraction(chance, 40)):
                told = grown(f, by)
                self.assertEqual(told, cut(py(number) * py(by) for number in f))
                self.assertIs(is_polynomial(told), True)

    def test_slope(self):
        self.assertEqual(slope([]), [])
        self.assertEqual(slope(poly(7)), [])
        self.assertEqual(slope(poly(7, "1/2")), poly("1/2"))
        self.assertEqual(slope(poly(1, 1, "1/2", "1/3")), poly(1, 1, 1))
        self.assertEqual(slope(poly(0, 0, 0, "-2/9")), poly(0, 0, "-2/3"))
        for f, _ in PAIRS:
            self.assertEqual(slope(f), cut(k * py(f[k]) for k in range(1, len(f))))

    def test_led(self):
        self.assertEqual(led([]), [])
        self.assertEqual(led(poly(-7)), poly(1))
        self.assertEqual(led(poly(1, 0, "-1/2")), poly(-2, 0, 1))
        for f, _ in PAIRS:
            self.assertEqual(led(f), cut(py(number) / py(f[-1]) for number in f))

    def test_number_at(self):
        self.assertEqual(number_at([], (5, 7)), (0, 1))
        self.assertEqual(number_at(poly("3/4"), (5, 7)), (3, 4))
        self.assertEqual(number_at(poly(1, 2, 3), (0, 1)), (1, 1))
        self.assertEqual(number_at(poly(1, 2, 3), (-1, 2)), (3, 4))
        self.assertEqual(number_at(poly(-2, 1), (2, 1)), (0, 1))
        chance = random.Random(23)
        for f, _ in PAIRS:
            for x in ((0, 1), (-1, 1), (2, 3), some_fraction(chance, 40)):
                number = sum((py(f[k]) * py(x) ** k for k in range(len(f))), Fraction(0))
                self.assertEqual(number_at(f, x), our(number))

    def test_what_was_told_may_be_handed_in_again(self):
        chance = random.Random(24)
        f, g = some_polynomial(chance, 13, 40), some_polynomial(chance, 13, 40)
        square = multiplied(multiplied(f, f), g)
        self.assertEqual(square, product(product(f, f), g))
        self.assertEqual(len(square), 37)
        self.assertIs(is_polynomial(square), True)
        self.assertEqual(lessened(square, square), [])
        self.assertEqual(led(square)[-1], (1, 1))


if __name__ == "__main__":
    unittest.main()
