"""Point 43 and the second half of 44: stretches around roots, and roots that are fractions."""

import random
import unittest
from fractions import Fraction

from momentwright.chains import how_many
from momentwright.errors import NoPolynomial
from momentwright.stretches import fraction_roots, stretches, stretches_hold
from support import (
    NO_ROOTS, Surd, cross, nested, our, poly, py, some_fraction, some_roots, surds_of, with_roots, with_surds,
)

WIDTHS = ((3, 1), (1, 1), (2, 3), (1, 10), (1, 1000))

OTHER_THINGS = (
    None, True, False, 0, 1, "", "none", {}, {"a": []}, (), ((0, 1), (1, 1)), [None], [True], [0], ["0..1"], [[]], [()],
    [{}], [(0, 1)], [((0, 1),)], [((0, 1), None)], [(None, (1, 1))], [([0, 1], [1, 1])], [((0, 1), (1, 1), (2, 1))],
    [[(0, 1), (1, 1)]], [((0, 2), (1, 1))], [((0, 1), (2, 2))], [((0, 1), (1, 0))], [((True, 1), (2, 1))],
    [((0, 1), "1")], nested(20),
)


def above(root, x):
    """The sign of a number less a fraction."""
    return root.put_in(poly(-py(x), 1)).sign()


def hold_by_hand(roots, width, told):
    """Whether a list of tuples of two fractions is one of stretches of these numbers."""
    if len(told) != len(roots):
        return False
    for place, (low, high) in enumerate(told):
        inside = [root for root in roots if above(root, low) > 0 and above(root, high) <= 0]
        if inside != [roots[place]] or not 0 < py(high) - py(low) <= py(width):
            return False
        if place > 0 and py(low) < py(told[place - 1][1]):
            return False
    return True


class TestStretches(unittest.TestCase):
    def test_plain_ones(self):
        for width in WIDTHS:
            told = stretches(poly(-2, 0, 1), width)
            self.assertEqual(len(told), 2)
            self.assertTrue(hold_by_hand([Surd(0, -1), Surd(0, 1)], width, told))

    def test_no_roots_no_stretches(self):
        for f in NO_ROOTS + (poly(7), poly("-1/3")):
            self.assertEqual(stretches(f, (1, 1)), [])

    def test_drawn_ones(self):
        chance = random.Random(18)
        for turn in range(120):
            roots = some_roots(chance, chance.randint(0, 3))
            f = with_surds(chance, roots)
            width = chance.choice(WIDTHS)
            told = stretches(f, width)
            self.assertTrue(hold_by_hand(surds_of(roots), width, told))
            self.assertIs(stretches_hold(f, width, told), True)

    def test_whole_roots_side_by_side(self):
        for width in WIDTHS:
            for times in (1, 2, 3):
                roots = (-2, -1, 0, 1)
                told = stretches(with_roots(*roots * times), width)
                self.assertTrue(hold_by_hand([Surd(root) for root in roots], width, told))

    def test_twelve_roots(self):
        for shift in (0, Fraction(1, 3)):
            roots = [k + shift for k in range(-6, 6)]
            told = stretches(with_roots(*roots), (1, 2))
            self.assertTrue(hold_by_hand([Surd(root) for root in roots], (1, 2), told))

    def test_two_very_near_one_another(self):
        third, near = Fraction(1, 3), Fraction(1, 10 ** 38)
        for times in (1, 2):
            for width in ((3, 1), (1, 1000)):
                told = stretches(with_roots(*[third, third + near] * times), width)
                self.assertTrue(hold_by_hand([Surd(third), Surd(third + near)], width, told))

    def test_a_very_small_width(self):
        width = (1, 10 ** 39)
        told = stretches(poly(-2, 0, 0, 1), width)
        (low, high), = told
        self.assertLess(py(low) ** 3, 2)
        self.assertGreaterEqual(py(high) ** 3, 2)
        self.assertLessEqual(py(high) - py(low), py(width))

    def test_roots_far_out_and_far_in(self):
        big = 10 ** 39
        roots = (-big, Fraction(-1, big), 0, Fraction(1, big), big)
        told = stretches(with_roots(*roots), (5, 1))
        self.assertTrue(hold_by_hand([Surd(root) for root in roots], (5, 1), told))

    def test_nought_is_refused(self):
        with self.assertRaises(NoPolynomial):
            stretches([], (1, 1))


class TestStretchesHold(unittest.TestCase):
    def test_plain_ones(self):
        f = with_roots(0, 2)
        good = [((-1, 1), (0, 1)), ((1, 1), (2, 1))]
        self.assertIs(stretches_hold(f, (1, 1), good), True)
        self.assertIs(stretches_hold(f, (3, 1), [((-1, 1), (1, 1)), ((1, 1), (3, 1))]), True)
        self.assertIs(stretches_hold(f, (3, 1), [((-1, 1), (0, 1)), ((0, 1), (2, 1))]), True)
        self.assertIs(stretches_hold(f, (1, 1), tuple(good)), False)
        self.assertIs(stretches_hold(f, (1, 1), good[::-1]), False)
        self.assertIs(stretches_hold(f, (1, 1), good[:1]), False)
        self.assertIs(stretches_hold(f, (1, 1), good + good[1:]), False)
        self.assertIs(stretches_hold(f, (1, 1), [list(one) for one in good]), False)

    def test_the_root_is_above_low_and_at_most_high(self):
        f = with_roots(0)
        self.assertIs(stretches_hold(f, (1, 1), [((0, 1), (1, 1))]), False)
        self.assertIs(stretches_hold(f, (1, 1), [((-1, 1), (0, 1))]), True)
        self.assertIs(stretches_hold(f, (1, 1), [((-1, 1), (-1, 2))]), False)

    def test_the_width(self):
        f = with_roots(0)
        self.assertIs(stretches_hold(f, (1, 1), [((-1, 2), (1, 2))]), True)
        self.assertIs(stretches_hold(f, (1, 1), [((-1, 2), (2, 3))]), False)
        self.assertIs(stretches_hold(f, (999, 1000), [((-1, 2), (1, 2))]), False)
        self.assertIs(stretches_hold(f, (1, 1), [((0, 1), (0, 1))]), False)
        self.assertIs(stretches_hold(f, (1, 1), [((1, 2), (-1, 2))]), False)

    def test_no_low_is_less_than_the_high_ahead(self):
        f = with_roots(0, 2)
        self.assertIs(stretches_hold(f, (2, 1), [((-1, 1), (1, 1)), ((1, 2), (2, 1))]), False)
        self.assertIs(stretches_hold(f, (2, 1), [((-1, 1), (1, 2)), ((1, 2), (2, 1))]), True)

    def test_no_roots(self):
        for f in NO_ROOTS + (poly(1),):
            self.assertIs(stretches_hold(f, (1, 1), []), True)
            self.assertIs(stretches_hold(f, (1, 1), [((0, 1), (1, 1))]), False)
            self.assertIs(stretches_hold(f, (1, 1), ()), False)
            self.assertIs(stretches_hold(f, (1, 1), None), False)

    def test_told_lists_bent(self):
        chance = random.Random(19)
        for turn in range(80):
            roots = some_roots(chance, chance.randint(1, 3))
            f = with_surds(chance, roots)
            unlike = surds_of(roots)
            width = chance.choice(WIDTHS)
            told = stretches(f, width)
            for bent in self.bent_lists(chance, told, width):
                self.assertIs(stretches_hold(f, width, bent), hold_by_hand(unlike, width, bent))
            for bad in OTHER_THINGS:
                self.assertIs(stretches_hold(f, width, bad), False)
                if bad != ((0, 1), (1, 1)):
                    self.assertIs(stretches_hold(f, width, told[:-1] + [bad]), False)

    def bent_lists(self, chance, told, width):
        """Lists that are told ones with something done to them: ends another one, out, twice, exchanged, wider."""
        for place, (low, high) in enumerate(told):
            for by in (py(width), py(width) / 2, -py(width) / 7, Fraction(1, 10 ** 9), py(some_fraction(chance, 1))):
                moved = ((our(py(low) + by), high), (low, our(py(high) + by)), (our(py(low) + by), our(py(high) + by)))
                for one in moved + ((high, low), (low, low)):
                    yield told[:place] + [one] + told[place + 1:]
            yield told[:place] + told[place + 1:]
            yield told[:place + 1] + told[place:]
            if place > 0:
                yield told[:place - 1] + [told[place], told[place - 1]] + told[place + 1:]
        yield []

    def test_nought_is_refused_ahead_of_all_else(self):
        for thing in OTHER_THINGS + ([], [((0, 1), (1, 1))]):
            with self.assertRaises(NoPolynomial):
                stretches_hold([], (1, 1), thing)


class TestFractionRoots(unittest.TestCase):
    def test_plain_ones(self):
        self.assertEqual(fraction_roots(with_roots(2, -1, "1/2")), poly(-1, "1/2", 2))
        self.assertEqual(fraction_roots(poly(-2, 0, 1)), [])
        self.assertEqual(fraction_roots(poly(1, -6, 0, 8)), [])
        self.assertEqual(fraction_roots(poly(0, "2/3")), [(0, 1)])
        self.assertEqual(fraction_roots(poly(-1, 2, 3)), [(-1, 1), (1, 3)])
        self.assertEqual(fraction_roots(poly(1, -2, -3)), [(-1, 1), (1, 3)])

    def test_no_roots(self):
        for f in NO_ROOTS + (poly(7), poly("-1/3")):
            self.assertEqual(fraction_roots(f), [])

    def test_each_once(self):
        self.assertEqual(fraction_roots(with_roots(3, 3, 3)), [(3, 1)])
        self.assertEqual(fraction_roots(with_roots(0, 0, "-5/7", "-5/7", "-5/7")), poly("-5/7", 0))

    def test_beside_roots_that_are_none(self):
        f = cross(poly(-2, 0, 1), poly(-2, 0, 1), poly(-3, 2), poly(1, 0, 1))
        self.assertEqual(fraction_roots(f), [(3, 2)])
        near = cross(poly(-2, 0, 1), with_roots(Fraction(141421356237, 10 ** 11), Fraction(141421356238, 10 ** 11)))
        self.assertEqual(fraction_roots(near), poly("1.41421356237", "1.41421356238"))

    def test_drawn_ones(self):
        chance = random.Random(20)
        for turn in range(150):
            roots = some_roots(chance, chance.randint(0, 4))
            told = fraction_roots(with_surds(chance, roots))
            self.assertEqual(told, [our(root.part) for root in surds_of(roots) if root.times == 0])

    def test_twelve_roots_and_forty_figures(self):
        self.assertEqual(fraction_roots(with_roots(*range(-6, 6))), poly(*range(-6, 6)))
        roots = sorted(py(some_fraction(random.Random(k), 40)) for k in range(6))
        self.assertEqual(fraction_roots(with_roots(*roots)), poly(*roots))

    def test_roots_whose_differences_have_many_divisors(self):
        roots = (0, 1, 30030, 223092870, -9699690)
        self.assertEqual(fraction_roots(with_roots(*roots)), poly(*sorted(roots)))
        self.assertEqual(fraction_roots(with_roots("1/30030", "1/6469693230")), poly("1/6469693230", "1/30030"))

    def test_they_are_among_the_real_roots(self):
        chance = random.Random(21)
        for turn in range(30):
            f = with_surds(chance, some_roots(chance, 2))
            for root in fraction_roots(f):
                self.assertEqual(how_many(f, our(py(root) - Fraction(1, 10 ** 9)), root) >= 1, True)

    def test_nought_is_refused(self):
        with self.assertRaises(NoPolynomial):
            fraction_roots([])


if __name__ == "__main__":
    unittest.main()
