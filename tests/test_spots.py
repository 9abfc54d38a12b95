"""Points 81 to 83, 61 and point 4 as far as they speak of them: told spots."""

import random
import unittest
from fractions import Fraction

from momentwright.back import back
from momentwright.crowds import sums_of
from momentwright.errors import NoSums
from momentwright.flocks import flock_of, is_flock
from momentwright.more import fewest, is_tight
from momentwright.spots import flock_at, least_square, shows_most, weight_up_to
from momentwright.steps import steps
from support import (
    BARRED, FLOCKS, Surd, cross, crowd, flock_sums_by_hand, flocks_sums, is_flock_by_hand, nested, our, poly, product, py,
    real_roots, some_crowd, some_fraction, square, sums_by_hand, surds_of, value, with_roots,
)

EMPTY = (poly(1), [])
WIDTHS = ((6, 1), (1, 1), (1, 2), (1, 100), (1, 10 ** 30))
TINY = Fraction(1, 10 ** 12)
OTHER_THINGS = (
    None, True, False, 0, 1, "", "1", (), [], {}, (1,), (2, 2), (1, 0), (1, 1, 1), (True, 1), (1, True), [1, 1],
    [(1, 1), (0, 1)], [(2, 2)], ((1, 1),), [[1, 1]], [None], [True], {1: 1}, nested(20), (nested(19), 1),
    [(1, nested(17))], ("below", [(1, 1)]),
)


def spots_for(chance, sums):
    """Fractions: roots of the last step where they are plain, and others."""
    told = [some_fraction(chance, 1), some_fraction(chance, 2), (0, 1), (1, 1), (-1, 1)]
    last = steps(sums)[-1][0]
    if len(last) == 2:
        told.append(our(-py(last[0])))
    return told


class TestFlockAt(unittest.TestCase):
    def check(self, sums, spot):
        """What is told is right; None just where it is to be."""
        told = flock_at(sums, spot)
        at_step = value(steps(sums)[-1][0], py(spot))
        self.assertIs(told is None, (at_step != 0) if is_tight(sums) else (at_step == 0))
        if told is not None:
            roots, weights = told
            self.assertIs(is_flock(told), True)
            self.assertEqual(flock_sums_by_hand(roots, weights, len(sums)), sums)
            self.assertEqual(value(roots, py(spot)), 0)
            self.assertEqual(len(roots) - 1, fewest(sums))
        return told

    def test_plain_ones(self):
        self.assertEqual(flock_at(poly(5), (2, 3)), (poly("-2/3", 1), poly(5)))
        self.assertIsNone(flock_at(poly(0), (2, 3)))
        self.assertEqual(flock_at(poly(1, 2, 4), (2, 1)), (poly(-2, 1), poly(1)))
        self.assertIsNone(flock_at(poly(1, 2, 4), (3, 1)))
        # Of a half of each of -1 and 1 the greatest step is x; the roots multiply to -1.
        self.assertEqual(flock_at(poly(1, 0, 1), (1, 1)), (poly(-1, 0, 1), poly("1/2")))
        self.assertEqual(flock_at(poly(1, 0, 1), (2, 1))[0], with_roots(2, "-1/2"))
        self.assertIsNone(flock_at(poly(1, 0, 1), (0, 1)))

    def test_drawn_sums(self):
        chance = random.Random(60)
        kinds = set()
        for turn in range(60):
            sums = flocks_sums(chance, (1, 3, 5, 7, 9, 11)[turn % 6])
            for spot in spots_for(chance, sums):
                kinds.add((self.check(sums, spot) is None, is_tight(sums)))
        self.assertEqual(len(kinds), 4)

    def test_sums_of_a_crowd(self):
        chance = random.Random(61)
        for spots in range(1, 6):
            drawn = some_crowd(chance, spots, 2)
            tight = sums_by_hand(drawn, 2 * spots + 1)
            open_ones = sums_by_hand(drawn, 2 * spots - 1)
            for spot, _ in drawn:
                self.assertEqual(self.check(tight, spot), flock_of(drawn))
                self.assertEqual(self.check(open_ones, spot), flock_of(drawn))
            for spot in (our(py(drawn[0][0]) - 1), our(py(drawn[0][0]) + TINY), our(py(drawn[-1][0]) + 5)):
                self.assertIsNone(self.check(tight, spot))
                self.check(open_ones, spot)

    def test_sums_of_roots_that_are_no_fractions(self):
        for roots, weights in FLOCKS:
            for many in (1, 3, 5, 7, 9, 11):
                sums = flock_sums_by_hand(roots, weights, many)
                for spot in ((0, 1), (7, 5), (-3, 1)):
                    self.check(sums, spot)

    def test_is_a_flock_by_hand_too(self):
        chance = random.Random(62)
        for many in (3, 5, 7):
            sums = sums_by_hand(some_crowd(chance, 5, 1), many)
            roots, weights = flock_at(sums, our(Fraction(1, 97)))
            self.assertTrue(is_flock_by_hand(roots, weights))

    def test_refused(self):
        for sums in BARRED + (poly(5, 1), poly(0, 0), poly(1, 2, 4, 8), [(1, k + 1) for k in range(10)]):
            for spot in ((0, 1), (1, 1), (-2, 3)):
                with self.assertRaises(NoSums):
                    flock_at(sums, spot)


class TestLeastSquare(unittest.TestCase):
    def check(self, sums, spot):
        """The polynomial is 1 at the spot, has the number as its square sum, and none has less."""
        number, f = least_square(sums, spot)
        self.assertEqual(value(f, py(spot)), 1)
        self.assertLessEqual(2 * len(f) - 1, len(sums))
        self.assertEqual(our(square(sums, f, f)), number)
        self.assertGreaterEqual(py(number), 0)
        # Another one is this one and some g that is 0 at the spot: twice their square sum and that of g
        # come to it, the former 0, the latter not below 0.
        for power in range((len(sums) - 1) // 2):
            g = product(poly(*[0] * power, 1), poly(-py(spot), 1))
            self.assertEqual(square(sums, f, g), 0)
        self.assertIs(shows_most(sums, spot, number, f), True)
        return py(number)

    def test_plain_ones(self):
        self.assertEqual(least_square(poly(5), (3, 1)), ((5, 1), poly(1)))
        self.assertEqual(least_square(poly(5, 2), (3, 1)), ((5, 1), poly(1)))
        self.assertEqual(least_square(poly(0), (3, 1)), ((0, 1), poly(1)))
        self.assertEqual(least_square(poly(1, 0, 1), (1, 1)), ((1, 2), poly("1/2", "1/2")))
        self.assertEqual(least_square(poly(1, 2, 4), (2, 1))[0], (1, 1))
        self.assertEqual(least_square(poly(1, 2, 4), (3, 1)), ((0, 1), poly(-2, 1)))

    def test_drawn_sums(self):
        chance = random.Random(63)
        for turn in range(88):
            sums = flocks_sums(chance, turn % 11 + 1)
            for spot in spots_for(chance, sums):
                self.check(sums, spot)

    def test_tight_sums_tell_the_weights_and_0_elsewhere(self):
        chance = random.Random(64)
        for spots in range(6):
            drawn = some_crowd(chance, spots, 2)
            for many in range(2 * spots + 1, 12):
                sums = sums_by_hand(drawn, many)
                for spot, weight in drawn:
                    self.assertEqual(self.check(sums, spot), py(weight))
                for spot in (our(TINY * 7), some_fraction(chance, 3)):
                    if spot not in [one for one, _ in drawn]:
                        self.assertEqual(self.check(sums, spot), 0)

    def test_no_flock_weighs_more_and_that_of_the_told_root_weighs_it(self):
        chance = random.Random(65)
        for spots in range(1, 7):
            drawn = some_crowd(chance, spots, 1)
            for many in range(1, 2 * spots):
                sums = sums_by_hand(drawn, many)
                for spot, weight in drawn:
                    most = self.check(sums, spot)
                    self.assertLessEqual(py(weight), most)
                    if many & 1:
                        self.weighs(sums, spot, most)
        for turn in range(20):
            sums = flocks_sums(chance, chance.choice((1, 3, 5, 7, 9)))
            spot = some_fraction(chance, 1)
            if not is_tight(sums):
                self.weighs(sums, spot, self.check(sums, spot))

    def weighs(self, sums, spot, most):
        """The flock with the told root has this weight there, and others that have the sums and the root no more."""
        flock = flock_at(sums, spot)
        if flock is not None:
            self.assertEqual(value(flock[1], py(spot)), most)
            if len(sums) < 11:
                # So is the flock of these sums, led on otherwise, with the same root.
                longer = sums + [our(5), our(10 ** 6)]
                if back(longer)[0] == "flock" and flock_at(longer, spot) is not None:
                    self.assertLess(value(flock_at(longer, spot)[1], py(spot)), most)

    def test_refused(self):
        for sums in BARRED:
            with self.assertRaises(NoSums):
                least_square(sums, (0, 1))


class TestShowsMost(unittest.TestCase):
    def test_whatever_the_polynomial(self):
        sums = poly(2, 0, 2, 0, 5)
        for f in (poly(1), poly("1/2", "1/2"), poly(0, 1), poly(0, 0, 1), poly(3, -1, -1), poly(2, -1)):
            number = our(square(sums, f, f))
            self.assertIs(shows_most(sums, (1, 1), number, f), True)
            for other in (our(py(number) + TINY), our(py(number) - TINY), (0, 1), our(-py(number))):
                self.assertIs(shows_most(sums, (1, 1), other, f), other == number)
            self.assertIs(shows_most(sums, (1, 2), number, f), f == poly(1))

    def test_degree(self):
        for many in range(1, 12):
            sums = [(1, k + 1) for k in range(many)]
            for numbers in range(1, 8):
                f = poly(*[0] * (numbers - 1), 1)
                tells = 2 * numbers - 1 <= many
                self.assertIs(shows_most(sums, (1, 1), (1, 2 * numbers - 1), f), tells)

    def test_nearly_right_ones(self):
        chance = random.Random(66)
        for turn in range(60):
            sums = flocks_sums(chance, chance.randint(1, 11))
            spot = some_fraction(chance, 1)
            number, f = least_square(sums, spot)
            self.assertIs(shows_most(sums, spot, number, f), True)
            bent = [(our(py(number) + 1), f), (number, f + poly(0)), (number, product(f, poly(2))), (number, []),
                    (number, tuple(f)), (list(number), f), ((2 * number[0], 2 * number[1]), f), (f, number),
                    ((-number[0], -number[1]), f), (number, f + poly(1)), (number, f * 7), (number, [f])]
            for one, other in bent:
                self.assertIs(shows_most(sums, spot, one, other), False)
            if number[1] == 1:
                self.assertIs(shows_most(sums, spot, number[0], f), False)
                self.assertIs(shows_most(sums, spot, (number[0], True), f), False)

    def test_other_things(self):
        for sums in (poly(5), poly(1, 1), poly(1, 0, 1), poly(0, 0, 0)):
            number, f = least_square(sums, (1, 1))
            for thing in OTHER_THINGS:
                self.assertIs(shows_most(sums, (1, 1), thing, f), False, thing)
                self.assertIs(shows_most(sums, (1, 1), number, thing), False, thing)
                for other in OTHER_THINGS:
                    self.assertIs(shows_most(sums, (1, 1), thing, other), False)

    def test_sums_that_no_flock_has_are_refused_ahead_of_all_else(self):
        for sums in BARRED:
            for number, f in ((sums[0], poly(1)), (None, None), ((1, 1), poly(*range(1, 14))), ("", {})):
                with self.assertRaises(NoSums):
                    shows_most(sums, (0, 1), number, f)


class TestWeightUpTo(unittest.TestCase):
    def check(self, flock, spot, width, weight, slack=0):
        """The weight lies between what is told, but for the slack that it is not known by."""
        told = weight_up_to(flock, spot, width)
        self.assertIs(type(told), tuple)
        low, high = (py(one) for one in told)
        self.assertEqual(told, (our(low), our(high)))
        self.assertLessEqual(low, weight + slack)
        self.assertGreaterEqual(high, weight - slack)
        self.assertGreaterEqual(high - low, 0)
        self.assertLessEqual(high - low, py(width))

    def test_of_crowds(self):
        chance = random.Random(67)
        for spots in range(7):
            for figures in (1, 3):
                drawn = some_crowd(chance, spots, figures)
                flock = flock_of(drawn)
                asked = [some_fraction(chance, 1), (0, 1), (10 ** 4, 1), (-10 ** 4, 1)]
                for spot, _ in drawn:
                    asked += [spot, our(py(spot) - TINY), our(py(spot) + TINY)]
                for spot in asked:
                    weight = sum((py(one) for at, one in drawn if py(at) <= py(spot)), Fraction(0))
                    for width in WIDTHS:
                        self.check(flock, spot, width, weight)

    def test_of_roots_that_are_no_fractions(self):
        for roots, weights in FLOCKS:
            around = [(low, value(weights, low)) for low, high in real_roots(roots)]
            for spot in ((0, 1), (7, 5), (-7, 5), (3, 2), (-9, 5), (5, 1), (-5, 1), (1, 10), (141421356, 10 ** 8)):
                weight = sum((one for low, one in around if low < py(spot)), Fraction(0))
                for width in WIDTHS[:4]:
                    self.check((roots, weights), spot, width, weight, Fraction(1, 10 ** 20))

    def test_exactly_of_square_roots(self):
        flock = (cross(poly(-2, 0, 1), poly(-3, 1), poly(1, 1)), poly(9, 2, 1, "1/7"))
        roots = surds_of([Surd(0, 1, 2), Surd(3), Surd(-1)])
        for many, spot in enumerate(((-2, 1), (-5, 4), (0, 1), (2, 1), (3, 1))):
            numbers = [root.put_in(flock[1]) for root in roots[:many]]
            part, times = sum(one.part for one in numbers), sum(one.times for one in numbers)
            for width in WIDTHS:
                low, high = (py(one) for one in weight_up_to(flock, spot, width))
                self.assertGreaterEqual(Surd(part - low, times).sign(), 0)
                self.assertLessEqual(Surd(part - high, times).sign(), 0)
                self.assertLessEqual(high - low, py(width))

    def test_no_roots(self):
        for width in WIDTHS:
            self.check(EMPTY, (3, 7), width, 0)

    def test_steep_weights_and_near_roots(self):
        pairs = crowd((0, 1), (TINY, 10 ** 6), (2 * TINY, 1), (10 ** 12, 5))
        flock = flock_of(pairs)
        for spot, weight in ((TINY / 2, 1), (TINY, 10 ** 6 + 1), (3 * TINY, 10 ** 6 + 2), (10 ** 12, 10 ** 6 + 7)):
            for width in WIDTHS:
                self.check(flock, our(spot), width, weight)

    def test_forty_figures(self):
        drawn = some_crowd(random.Random(68), 6, 40)
        self.check(flock_of(drawn), drawn[2][0], (1, 10 ** 39), sum(py(weight) for _, weight in drawn[:3]))

    def test_each_flock_is_bounded_by_that_of_the_told_root(self):
        chance = random.Random(69)
        width = (1, 10 ** 12)
        slack = 3 * py(width)
        for turn in range(25):
            drawn = some_crowd(chance, 6, 1)
            sums = sums_of(drawn, chance.choice((3, 5, 7, 9)))
            spot = chance.choice((drawn[chance.randrange(6)][0], some_fraction(chance, 1)))
            flock = flock_at(sums, spot)
            if flock is None:
                continue
            most = py(least_square(sums, spot)[0])
            up_to = py(weight_up_to(flock, spot, width)[0])
            below = sum((py(weight) for one, weight in drawn if py(one) < py(spot)), Fraction(0))
            with_it = sum((py(weight) for one, weight in drawn if py(one) <= py(spot)), Fraction(0))
            self.assertGreaterEqual(below, up_to - most - slack)
            self.assertLessEqual(with_it, up_to + slack)


if __name__ == "__main__":
    unittest.main()
