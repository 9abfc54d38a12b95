"""Points 41 and 42, and the first half of 44: chains, counted roots, signs at roots."""

import random
import unittest
from fractions import Fraction

from momentwright.chains import chain, how_many, signs_at
from momentwright.errors import NoPolynomial
from support import (
    NO_ROOTS, Surd, chain_by_hand, cross, our, poly, py, some_fraction, some_polynomial, some_roots, surds_of,
    with_roots, with_surds,
)


class TestChain(unittest.TestCase):
    def test_plain_ones(self):
        self.assertEqual(chain(poly(-2, 0, 1)), [poly(-2, 0, 1), poly(0, 2), poly(2)])
        self.assertEqual(chain(poly(1, 0, 1)), [poly(1, 0, 1), poly(0, 2), poly(-1)])
        self.assertEqual(chain(poly(1, 2, 1)), [poly(1, 2, 1), poly(2, 2)])
        self.assertEqual(chain(poly(3, 5)), [poly(3, 5), poly(5)])

    def test_a_constant_is_its_own_chain(self):
        self.assertEqual(chain(poly("-7/3")), [poly("-7/3")])

    def test_degrees_that_fall_by_more_than_one(self):
        for f in (poly(1, 1, 0, 0, 0, 1), poly(-5, 0, 0, 0, 0, 0, 2), poly(1, 0, 0, 0, 0, 0, -3), poly(0, 0, 0, 0, 4),
                  poly(1, 0, 0, 1, 0, 0, 0, 0, -1), poly(-1, 0, -1, 0, 0, 0, 0, 0, 0, 0, 0, 0, -1)):
            self.assertEqual(chain(f), chain_by_hand(f))

    def test_drawn_ones(self):
        chance = random.Random(14)
        for turn in range(120):
            f = some_polynomial(chance, chance.randint(1, 9), chance.choice((1, 1, 4)))
            self.assertEqual(chain(f), chain_by_hand(f))
            f = with_surds(chance, some_roots(chance, chance.randint(1, 3)))
            self.assertEqual(chain(f), chain_by_hand(f))

    def test_thirteen_numbers(self):
        f = poly(7, -3, 0, 5, 2, -8, 1, 0, 4, -6, 9, -1, 3)
        self.assertEqual(chain(f), chain_by_hand(f))
        g = with_roots(*range(1, 13))
        self.assertEqual(chain(g), chain_by_hand(g))

    def test_nought_is_refused(self):
        with self.assertRaises(NoPolynomial):
            chain([])


class TestHowMany(unittest.TestCase):
    def test_plain_ones(self):
        f = with_roots(-1, 0, 2)
        self.assertEqual(how_many(f, None, None), 3)
        self.assertEqual(how_many(f, (-1, 2), (5, 1)), 2)
        self.assertEqual(how_many(f, (1, 1), (3, 2)), 0)

    def test_a_root_at_the_low_and_at_the_high_one(self):
        for times in (1, 2, 3):
            f = with_roots(*[-1, 0, 2] * times)
            self.assertEqual(how_many(f, (-1, 1), (2, 1)), 2)
            self.assertEqual(how_many(f, (-1, 1), (0, 1)), 1)
            self.assertEqual(how_many(f, (-2, 1), (-1, 1)), 1)
            self.assertEqual(how_many(f, (2, 1), (3, 1)), 0)
            self.assertEqual(how_many(f, None, (-1, 1)), 1)
            self.assertEqual(how_many(f, None, (0, 1)), 2)
            self.assertEqual(how_many(f, (0, 1), None), 1)
            self.assertEqual(how_many(f, (2, 1), None), 0)
            self.assertEqual(how_many(f, None, (-2, 1)), 0)

    def test_a_low_one_that_is_not_less(self):
        f = with_roots(1, 1, 3)
        for low, high in (((1, 1), (1, 1)), ((3, 1), (1, 1)), ((5, 1), (0, 1)), ((2, 1), (2, 1)), ((1, 2), (1, 3))):
            self.assertEqual(how_many(f, low, high), 0)

    def test_no_roots_at_all(self):
        for f in NO_ROOTS + (poly(5), poly("-1/2")):
            for low in (None, (-1, 1)):
                for high in (None, (1, 1)):
                    self.assertEqual(how_many(f, low, high), 0)

    def test_roots_up_to_three_times_count_once(self):
        self.assertEqual(how_many(with_roots(5, 5, 5), None, None), 1)
        self.assertEqual(how_many(with_roots(5, 5, 5, -1, -1, 0), None, None), 3)
        self.assertEqual(how_many(cross(poly(-2, 0, 1), poly(-2, 0, 1), poly(1, 1)), None, None), 3)

    def test_two_very_near_one_another(self):
        near = Fraction(1, 10 ** 38)
        third = Fraction(1, 3)
        for times in (1, 2):
            f = with_roots(*[third, third + near] * times)
            self.assertEqual(how_many(f, None, None), 2)
            self.assertEqual(how_many(f, our(third), our(third + near)), 1)
            self.assertEqual(how_many(f, our(third - near), our(third)), 1)
            self.assertEqual(how_many(f, our(third), our(third + near / 2)), 0)
            self.assertEqual(how_many(f, our(third + near / 2), (1, 2)), 1)
            self.assertEqual(how_many(f, our(third + near), None), 0)

    def test_drawn_ones(self):
        chance = random.Random(15)
        for turn in range(150):
            roots = some_roots(chance, chance.randint(0, 3))
            f = with_surds(chance, roots)
            unlike = [root.near() for root in surds_of(roots)]
            ends = [None] + [py(some_fraction(chance, 1)) for _ in range(3)]
            ends += [root.part for root in roots] + [Fraction(1, 2)]
            for low in ends:
                for high in ends:
                    wanted = sum((low is None or root > low) and (high is None or root <= high) for root in unlike)
                    told = how_many(f, None if low is None else our(low), None if high is None else our(high))
                    self.assertEqual(told, wanted)

    def test_thirteen_numbers(self):
        f = with_roots(*range(1, 13))
        self.assertEqual(how_many(f, None, None), 12)
        self.assertEqual(how_many(f, (1, 1), (12, 1)), 11)
        self.assertEqual(how_many(f, (13, 2), None), 6)

    def test_numbers_of_forty_figures(self):
        roots = [py(some_fraction(random.Random(k), 40)) for k in range(6)]
        f = with_roots(*roots)
        self.assertEqual(how_many(f, None, None), 6)
        for place, root in enumerate(sorted(roots)):
            self.assertEqual(how_many(f, None, our(root)), place + 1)
            self.assertEqual(how_many(f, our(root), None), 5 - place)

    def test_nought_is_refused_ahead_of_all_else(self):
        for low, high in ((None, None), ((0, 1), None), ((0, 1), (1, 1)), ((1, 1), (0, 1)), ((1, 1), (1, 1))):
            with self.assertRaises(NoPolynomial):
                how_many([], low, high)


class TestSignsAt(unittest.TestCase):
    def test_plain_ones(self):
        f = with_roots(-1, 0, 2)
        self.assertEqual(signs_at(f, poly(0, 1)), [-1, 0, 1])
        self.assertEqual(signs_at(f, poly(1)), [1, 1, 1])
        self.assertEqual(signs_at(f, poly("-1/5")), [-1, -1, -1])
        self.assertEqual(signs_at(poly(-2, 0, 1), poly(0, 1)), [-1, 1])
        self.assertEqual(signs_at(poly(-2, 0, 1), poly(0, -1)), [1, -1])

    def test_nought_and_the_same_are_0_at_each_root(self):
        for f in (with_roots(1, 1, 2, 7), poly(-2, 0, 1), poly(1, -3, 0, 1)):
            many = how_many(f, None, None)
            self.assertEqual(signs_at(f, []), [0] * many)
            self.assertEqual(signs_at(f, f), [0] * many)

    def test_no_roots_no_signs(self):
        for f in NO_ROOTS + (poly(5),):
            for g in ([], poly(1), poly(0, 1), f):
                self.assertEqual(signs_at(f, g), [])

    def test_by_fractions_on_both_sides_of_roots_that_are_none(self):
        f = cross(poly(-2, 0, 1), poly(1, -1), poly(-3, 0, 2), poly(-2, 0, 1))
        self.assertEqual(signs_at(f, poly("-7/5", 1)), [-1, -1, -1, -1, 1])
        self.assertEqual(signs_at(f, poly("-71/50", 1)), [-1, -1, -1, -1, -1])
        self.assertEqual(signs_at(f, cross(poly("-6/5", 1), poly("7/5", 1))), [1, -1, -1, 1, 1])

    def test_a_second_one_with_roots_very_near(self):
        # Each is nearer to the root than the last by as much as fractions of so many figures can be.
        top, bottom = 1, 1
        for turn in range(90):
            top, bottom = top + 2 * bottom, top + bottom
            side = 1 if top * top < 2 * bottom * bottom else -1
            g = poly(Fraction(-top, bottom), 1)
            self.assertEqual(signs_at(poly(-2, 0, 1), g), [-1, side])
            self.assertEqual(signs_at(cross(poly(-2, 0, 1), g), g), [-1, 0, 1] if side > 0 else [-1, -1, 0])

    def test_drawn_ones(self):
        chance = random.Random(16)
        for turn in range(250):
            roots = some_roots(chance, chance.randint(0, 3))
            f = with_surds(chance, roots)
            shares = [root for root in roots if chance.random() < 0.4]
            g = with_surds(chance, shares + some_roots(chance, chance.randint(0, 1)))
            wanted = [root.put_in(g).sign() for root in surds_of(roots)]
            self.assertEqual(signs_at(f, g), wanted)
            g = some_polynomial(chance, chance.randint(0, 8), chance.choice((1, 3)))
            self.assertEqual(signs_at(f, g), [root.put_in(g).sign() for root in surds_of(roots)])

    def test_whole_roots_at_which_halving_may_hit(self):
        chance = random.Random(17)
        for turn in range(200):
            roots = sorted(chance.sample(range(-8, 9), chance.randint(1, 6)))
            g = some_polynomial(chance, chance.randint(0, 5), 1)
            wanted = [Surd(root).put_in(g).sign() for root in roots]
            self.assertEqual(signs_at(with_roots(*roots), g), wanted)
            others = [chance.randint(-8, 8) for _ in range(chance.randint(1, 5))]
            g = with_roots(*others)
            wanted = [Surd(root).put_in(g).sign() for root in roots]
            self.assertEqual(signs_at(with_roots(*roots), g), wanted)

    def test_twelve_roots_and_thirteen_numbers(self):
        f = with_roots(*range(1, 13))
        g = with_roots(*[Fraction(2 * k + 1, 2) for k in range(12)])
        self.assertEqual(signs_at(f, g), [-1, 1] * 6)
        self.assertEqual(signs_at(g, f), [1, -1] * 6)

    def test_nought_is_refused_ahead_of_all_else(self):
        for g in ([], poly(1), poly(0, 1)):
            with self.assertRaises(NoPolynomial):
                signs_at([], g)


if __name__ == "__main__":
    unittest.main()
