"""Points 51 and 52: flocks, their crowds and their sums."""

import random
import unittest
from fractions import Fraction

from momentwright.crowds import sums_of
from momentwright.flocks import crowd_of, flock_of, flock_sums, is_flock
from support import (
    FLOCKS, Surd, cross, crowd, cut, flock_sums_by_hand, is_flock_by_hand, nested, our, poly, py, some_crowd,
    some_polynomial, some_roots, sums_by_hand, surds_of, value, with_roots,
)

EMPTY = (poly(1), [])

NOT_FLOCKS = (
    # Not led by 1.
    (poly(2), []), (poly(-1, 2), poly(1)), (poly(2, 0, -1), poly(1)), ([], []), ([], poly(1)), (poly("1/2"), []),
    # Weights of as many numbers as roots, or more.
    (poly(1), poly(1)), (poly(0, 1), poly(1, 1)), (poly(-2, 0, 1), poly(1, 0, 1)), (poly(-2, 0, 1), poly(3, 0, 0, 1)),
    # A weight of 0 or below at a root.
    (poly(0, 1), []), (poly(0, 1), poly(-1)), (poly(-1, 0, 1), poly(1, 1)), (poly(-1, 0, 1), poly(0, 1)),
    (poly(-1, 0, 1), poly(-3)), (poly(-2, 0, 1), poly(1, 1)), (poly(-2, 0, 1), poly("-7/5", 1)), (poly(-2, 0, 1), []),
    (cross(poly(-2, 0, 1), poly(-1, 1)), poly(-2, 0, 1)),
    # A root twice, or not real.
    (poly(1, -2, 1), poly(1)), (with_roots(1, 1, 2), poly(5)), (with_roots(3, 3, 3), poly(1)), (poly(1, 0, 1), poly(1)),
    (cross(poly(-2, 0, 1), poly(-2, 0, 1)), poly(1)), (poly(-2, 0, 0, 1), poly(1)), (poly(1, 0, 0, 0, 1), poly(1)),
    # A 0 behind, or a part bent.
    (poly(1, 0), []), (poly(0, 1, 0), poly(1)), (poly(0, 1), poly(1, 0)), (poly(-2, 0, 1), poly(1, 0)),
    (poly(1), poly(0)),
    ([(0, 2), (1, 1)], poly(1)), ([(0, 1), (2, 2)], poly(1)), (poly(0, 1), [(2, 2)]), (poly(0, 1), [(1, -1)]),
    ([(0, 1), (True, 1)], poly(1)), ([(0, 1), (1, True)], poly(1)), (poly(0, 1), [(True, 1)]), (poly(0, 1), [1]),
    ([0, 1], poly(1)), (poly(0, 1), (1, 1)), (((0, 1), (1, 1)), poly(1)), (poly(0, 1), ((1, 1),)),
    ([[0, 1], [1, 1]], []),
    # Not a tuple of two.
    [poly(0, 1), poly(1)], (poly(0, 1),), (poly(0, 1), poly(1), poly(1)), (), [], {}, None, True, 0, 1, "", "flock",
    ("flock", (poly(0, 1), poly(1))), (None, None), (poly(1), None), (None, []), ("", ""), ({}, {}), ("ab", []),
    (True, False), (1, 0), nested(20), (nested(19), nested(19)), {"roots": poly(0, 1), "weights": poly(1)},
    ([None], [None]), ([{}], []), (poly(0, 1), [None]), (poly(0, 1), ["1"]),
)


class TestIsFlock(unittest.TestCase):
    def test_flocks(self):
        for thing in FLOCKS + (EMPTY,):
            self.assertIs(is_flock(thing), True, thing)

    def test_things_that_are_none(self):
        for thing in NOT_FLOCKS:
            self.assertIs(is_flock(thing), False, thing)

    def test_six_roots_and_seven(self):
        six = with_roots(*range(6))
        self.assertIs(is_flock((six, poly(1))), True)
        self.assertIs(is_flock((six, poly(1, 1, 1, 1, 1, 1))), True)
        self.assertIs(is_flock((six, poly(1, 1, 1, 1, 1, 1, 1))), False)
        self.assertIs(is_flock((with_roots(*range(7)), poly(1))), False)
        self.assertIs(is_flock((with_roots(*range(12)), poly(1))), False)

    def test_drawn_ones_by_the_signs_at_their_roots(self):
        chance = random.Random(22)
        kinds = set()
        for turn in range(300):
            roots = some_roots(chance, chance.randint(0, 4))
            unlike = {tuple(root.least()): root.least() for root in roots}
            product = cross(*unlike.values())
            weights = some_polynomial(chance, chance.randint(0, len(product)), 1)
            if weights and chance.random() < 0.7:
                weights = cut([py(weights[0]) + 30] + [py(number) for number in weights[1:]])
            fits = 1 <= len(product) <= 7 and len(weights) < len(product)
            wanted = fits and all(root.put_in(weights).sign() > 0 for root in surds_of(roots))
            self.assertIs(is_flock((product, weights)), wanted)
            kinds.add((len(product), wanted))
            if roots:
                twice = cross(product, chance.choice(roots).least())
                self.assertIs(is_flock((twice, poly(1))), False)
        self.assertLessEqual({(7, True), (7, False), (4, True), (4, False)}, kinds)

    def test_drawn_ones_by_hand(self):
        chance = random.Random(23)
        for turn in range(60):
            roots = some_polynomial(chance, chance.randint(1, 4), 1)[:-1] + poly(1)
            weights = some_polynomial(chance, chance.randint(0, len(roots)), 1)
            self.assertIs(is_flock((roots, weights)), is_flock_by_hand(roots, weights))

    def test_weights_that_are_hardly_above_0(self):
        # At a root of x x - 2 these are as near to 0 as fractions of so many figures can come.
        top, bottom = 1, 1
        for turn in range(90):
            top, bottom = top + 2 * bottom, top + bottom
            side = top * top > 2 * bottom * bottom
            self.assertIs(is_flock((poly(-2, 0, 1), poly(Fraction(top, bottom), 1))), side)


class TestFlockOf(unittest.TestCase):
    def test_plain_ones(self):
        self.assertEqual(flock_of([]), EMPTY)
        self.assertEqual(flock_of(crowd((3, "1/2"))), (poly(-3, 1), poly("1/2")))
        self.assertEqual(flock_of(crowd((-1, 1), (1, 3))), (poly(-1, 0, 1), poly(2, 1)))
        self.assertEqual(flock_of(crowd((0, 2), (1, 2), (5, 2))), (with_roots(0, 1, 5), poly(2)))

    def test_drawn_ones_there_and_back(self):
        chance = random.Random(24)
        for many in range(7):
            for figures in (1, 2, 10, 40):
                drawn = some_crowd(chance, many, figures)
                told = flock_of(drawn)
                roots, weights = told
                self.assertEqual(roots, with_roots(*[py(spot) for spot, weight in drawn]))
                self.assertLess(len(weights), len(roots))
                for spot, weight in drawn:
                    self.assertEqual(our(value(weights, py(spot))), weight)
                self.assertIs(is_flock(told), True)
                self.assertEqual(crowd_of(told), drawn)


class TestCrowdOf(unittest.TestCase):
    def test_plain_ones(self):
        self.assertEqual(crowd_of(EMPTY), [])
        self.assertEqual(crowd_of((poly(-1, 0, 1), poly(2, 1))), crowd((-1, 1), (1, 3)))
        self.assertEqual(crowd_of((with_roots("1/2"), poly("2/3"))), crowd(("1/2", "2/3")))

    def test_none_where_a_root_is_no_fraction(self):
        for flock in FLOCKS:
            self.assertIsNone(crowd_of(flock))
        self.assertIsNone(crowd_of((cross(poly(-2, 0, 1), with_roots(0, 1, 2, 3)), poly(1))))


class TestFlockSums(unittest.TestCase):
    def test_plain_ones(self):
        self.assertEqual(flock_sums((poly(-2, 0, 1), poly(1)), 6), poly(2, 0, 4, 0, 8, 0))
        self.assertEqual(flock_sums((poly(-2, 0, 1), poly(3, 2)), 5), poly(6, 8, 12, 16, 24))
        self.assertEqual(flock_sums((poly(-1, -1, 1), poly(1)), 7), poly(2, 1, 3, 4, 7, 11, 18))

    def test_without_roots_all_are_0(self):
        for many in (1, 2, 13):
            self.assertEqual(flock_sums(EMPTY, many), [(0, 1)] * many)

    def test_those_of_a_crowd(self):
        chance = random.Random(25)
        for spots in range(7):
            for many in range(1, 14):
                drawn = some_crowd(chance, spots, chance.choice((1, 6)))
                told = flock_sums(flock_of(drawn), many)
                self.assertEqual(told, sums_by_hand(drawn, many))
                self.assertEqual(told, sums_of(drawn, many))

    def test_of_a_crowd_of_forty_figures(self):
        drawn = some_crowd(random.Random(26), 6, 40)
        self.assertEqual(flock_sums(flock_of(drawn), 13), sums_by_hand(drawn, 13))

    def test_where_roots_and_weights_are_no_fractions(self):
        for roots, weights in FLOCKS:
            for many in (1, 2, 5, 13):
                self.assertEqual(flock_sums((roots, weights), many), flock_sums_by_hand(roots, weights, many))

    def test_drawn_ones_root_by_root(self):
        chance = random.Random(27)
        for turn in range(60):
            unlike = surds_of(some_roots(chance, chance.randint(1, 3)))
            factors = {tuple(root.least()): root.least() for root in unlike}
            roots = cross(*factors.values())
            weights = some_polynomial(chance, chance.randint(1, len(roots) - 1), 2)
            wanted = []
            for k in range(8):
                # What is no fraction in one root's part is taken away again by the root that comes with it.
                parts = [root.put_in(cross(weights, poly(*[0] * k, 1))).part for root in unlike]
                wanted.append(our(sum(parts, Fraction(0))))
            self.assertEqual(flock_sums((roots, weights), 8), wanted)
        self.assertEqual(Surd(1, 1).put_in(poly(0, 0, 1)).part, 3)


if __name__ == "__main__":
    unittest.main()
