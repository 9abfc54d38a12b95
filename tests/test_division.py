"""One polynomial by another, and what two share: point 13."""

import random
import unittest
from fractions import Fraction

from momentwright.errors import NoPolynomial
from momentwright.polynomials import is_polynomial, led, multiplied, parted, shared
from support import cut, padded, poly, product, py, some_polynomial, total, with_roots


def rest_of(f, g):
    """The rest of f by g by long division, number by number."""
    numbers = padded(f, len(f))
    while len(numbers) >= len(g):
        by = numbers[-1] / py(g[-1])
        for k in range(len(g)):
            numbers[len(numbers) - len(g) + k] -= by * py(g[k])
        numbers.pop()
    return cut(numbers)


class TestParted(unittest.TestCase):
    def check(self, f, g):
        told = parted(f, g)
        self.assertIs(isinstance(told, tuple), True)
        quotient, rest = told
        self.assertIs(is_polynomial(quotient), True)
        self.assertIs(is_polynomial(rest), True)
        self.assertLess(len(rest), len(g))
        self.assertEqual(total(product(quotient, g), rest), f)
        self.assertEqual(rest, rest_of(f, g))

    def test_known_ones(self):
        rows = (
            (poly(-1, 0, 1), poly(-1, 1), poly(1, 1), []),
            (poly(1, 0, 1), poly(-1, 1), poly(1, 1), poly(2)),
            (poly(1, 2, 3), poly(2), poly("1/2", 1, "3/2"), []),
            (poly(1, 2, 3), poly("-1/3"), poly(-3, -6, -9), []),
            (poly(0, 0, 0, 1), poly(1, 2), poly("1/8", "-1/4", "1/2"), poly("-1/8")),
            (poly(5), poly(3), poly("5/3"), []),
            (poly(1, 0, 0, 0, 1), poly(0, 0, 1), poly(0, 0, 1), poly(1)),
            (poly(1, 1, 0, 0, 1), poly(1, 0, -1), poly(-1, 0, -1), poly(2, 1)),
        )
        for f, g, quotient, rest in rows:
            self.assertEqual(parted(f, g), (quotient, rest))

    def test_second_of_greater_degree(self):
        self.assertEqual(parted(poly(1, 2), poly(1, 2, 3)), ([], poly(1, 2)))
        self.assertEqual(parted(poly(7), poly(0, "1/2")), ([], poly(7)))
        self.assertEqual(parted([], poly(0, "1/2")), ([], []))
        self.assertEqual(parted([], poly(3)), ([], []))

    def test_same_degree(self):
        self.assertEqual(parted(poly(1, 2, 3), poly(1, 2, 3)), (poly(1), []))
        self.assertEqual(parted(poly(1, 2, 3), poly(0, 0, -1)), (poly(-3), poly(1, 2)))

    def test_made_up_ones(self):
        chance = random.Random(31)
        for _ in range(300):
            figures = chance.choice((1, 1, 4, 40))
            f = some_polynomial(chance, chance.randint(0, 13), figures)
            g = some_polynomial(chance, chance.randint(1, 13), figures)
            self.check(f, g)

    def test_those_that_leave_no_rest(self):
        chance = random.Random(32)
        for _ in range(60):
            f = some_polynomial(chance, chance.randint(1, 7), 20)
            g = some_polynomial(chance, chance.randint(1, 7), 20)
            self.assertEqual(parted(product(f, g), g), (f, []))

    def test_numbers_within_that_are_0(self):
        chance = random.Random(33)
        for _ in range(200):
            f = cut(chance.choice((0, 0, 1, -1, 2)) for _ in range(13))
            g = cut(chance.choice((0, 0, 1, -1, 2)) for _ in range(chance.randint(1, 6)))
            if g:
                self.check(f, g)

    def test_by_nought_is_refused(self):
        for f in ([], poly(1), poly(1, 2, 3)):
            with self.assertRaises(NoPolynomial):
                parted(f, [])

    def test_what_was_told_may_be_handed_in_again(self):
        chance = random.Random(34)
        f, g = some_polynomial(chance, 13, 40), some_polynomial(chance, 13, 40)
        self.assertEqual(parted(multiplied(f, g), g), (f, []))


class TestShared(unittest.TestCase):
    def check(self, f, g, told):
        self.assertEqual(shared(f, g), told)
        self.assertEqual(shared(g, f), told)

    def test_noughts(self):
        self.check([], [], [])
        self.check([], poly(-5), poly(1))
        self.check([], poly(2, 0, 4), poly("1/2", 0, 1))

    def test_those_that_share_nothing(self):
        self.check(poly(3), poly("-1/7"), poly(1))
        self.check(poly(3), poly(1, 2, 3), poly(1))
        self.check(poly(-1, 1), poly(1, 1), poly(1))
        self.check(poly(1, 0, 1), poly(-2, 0, 1), poly(1))
        self.check(with_roots(1, 2, 3, "1/2"), with_roots(-1, -2, "1/3", 4, 5), poly(1))

    def test_roots_in_common(self):
        self.check(with_roots(0, 1, 2), with_roots(1, 2, 3), with_roots(1, 2))
        self.check(with_roots("1/2"), with_roots("1/2", "1/3"), with_roots("1/2"))
        self.check(product(poly("-6/5"), with_roots(0, 1)), product(poly(9), with_roots(1, 4)), with_roots(1))

    def test_roots_that_stand_more_than_once(self):
        self.check(with_roots(0, 0, 1, 1, 1), with_roots(0, 0, 0, 1), with_roots(0, 0, 1))
        self.check(with_roots(5, 5, 5), with_roots(5, 5), with_roots(5, 5))

    def test_a_shared_one_without_roots(self):
        common = poly(2, 0, 1)
        self.check(product(common, poly(-1, 1)), product(common, poly("1/3", 0, "-2/5")), common)

    def test_of_one_and_itself(self):
        f = poly(1, "2/3", -4)
        self.assertEqual(shared(f, f), led(f))

    def test_made_up_ones(self):
        chance = random.Random(35)
        for _ in range(60):
            figures = chance.choice((1, 3, 10))
            common = led(some_polynomial(chance, chance.randint(1, 5), figures))
            roots = chance.sample(range(-20, 20), chance.randint(0, 8))
            many = chance.randint(0, len(roots))
            # The roots are all unlike, so the two share nothing but what both were multiplied by.
            f = product(common, with_roots(*roots[:many]))
            g = product(common, with_roots(*roots[many:]))
            self.check(f, g, common)

    def test_greatest_sizes(self):
        chance = random.Random(36)
        f, g, common = (some_polynomial(chance, many, 40) for many in (7, 8, 6))
        self.check(product(f, common), product(g, common), led(common))
        self.check(some_polynomial(chance, 13, 40), some_polynomial(chance, 12, 40), poly(1))

    def test_what_is_told_leaves_no_rest(self):
        chance = random.Random(37)
        for _ in range(100):
            f = cut(chance.choice((0, 1, -1, Fraction(1, 2))) for _ in range(chance.randint(0, 9)))
            g = cut(chance.choice((0, 1, -1, Fraction(1, 2))) for _ in range(chance.randint(0, 9)))
            told = shared(f, g)
            self.assertIs(is_polynomial(told), True)
            if f or g:
                self.assertEqual(told[-1], (1, 1))
                self.assertEqual((rest_of(f, told), rest_of(g, told)), ([], []))
                parts = (parted(f, told)[0], parted(g, told)[0])
                self.assertEqual(len(shared(parts[0], parts[1])), 1)


if __name__ == "__main__":
    unittest.main()
