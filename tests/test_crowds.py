"""Points 21 and 22: crowds and their sums."""

import random
import unittest
from fractions import Fraction

from momentwright.crowds import is_crowd, sums_of
from support import crowd, nested, our, some_crowd, sums_by_hand

CROWDS = (
    [],
    crowd((0, 1)),
    crowd((-3, "1/2")),
    crowd((-1, 2), (1, 2)),
    crowd(("-7/3", "1/9"), (0, 5), ("2/5", "3/4")),
    crowd((-2, 1), (-1, 1), (0, 1), (1, 1), (2, 1), (3, 1)),
)

NOT_CROWDS = (
    crowd((2, 1), (1, 1)), crowd((1, 1), (1, 2)), crowd((0, 1), (1, 1), (1, 1)), crowd(("1/2", 1), ("1/3", 1)),
    crowd((-1, 1), (-2, 1)), crowd((0, 0)), crowd((0, -1)), crowd((0, 1), (1, 0)), crowd((0, 1), (1, "-1/2"), (2, 1)),
    [((2, 4), (1, 1))], [((1, 1), (2, 4))], [((0, 2), (1, 1))], [((1, -1), (1, 1))], [((1, 0), (1, 1))],
    [((1, 1), (1, 0))], [((1, 1), (-1, -1))], [((True, 1), (1, 1))], [((1, 1), (1, True))], [((0, 1), (1, 1, 1))],
    [((0, 1),)], [((0, 1), (1, 1), (1, 1))], [()], [(1, 1)], [(0, (1, 1))], [((0, 1), 1)], [[(0, 1), (1, 1)]],
    [([0, 1], (1, 1))], [((0, 1), [1, 1])], (((0, 1), (1, 1)),), ((0, 1), (1, 1)), (), {}, {"a": []}, set(),
    {(0, 1): (1, 1)}, "", "none", "0:1", None, True, False, 0, 1, [None], [True], [""], ["0:1"], [{}], [[]],
    [((0, 1), (1, 1)), None], [((0, 1), (1, 1)), ((1, 1), None)], [(("0", "1"), (1, 1))], nested(20),
    [((None, 1), (1, 1))], [(({}, 1), (1, 1))], [((0, 1), ("1", 1))], [{"spot": (0, 1), "weight": (1, 1)}],
)


class TestIsCrowd(unittest.TestCase):
    def test_crowds(self):
        for thing in CROWDS:
            self.assertIs(is_crowd(thing), True, thing)

    def test_of_however_many_spots(self):
        self.assertIs(is_crowd([((k, 1), (1, k + 1)) for k in range(50)]), True)
        self.assertIs(is_crowd([((k, 1), (1, k + 1)) for k in range(50)] + crowd((49, 1))), False)

    def test_drawn_crowds_and_such_bent(self):
        chance = random.Random(1)
        for turn in range(60):
            many = turn % 7
            drawn = some_crowd(chance, many, 12)
            self.assertIs(is_crowd(drawn), True)
            self.assertIs(is_crowd(tuple(drawn)), False)
            for place in range(many):
                spot, weight = drawn[place]
                for bent in ((spot, (0, 1)), (spot, (-weight[0], weight[1])), (spot,), (spot, weight, weight),
                             (spot, (2 * weight[0], 2 * weight[1])), [spot, weight], (spot[0], weight), None,
                             ((2 * spot[0], 2 * spot[1]), weight), (spot, weight[0]), ((spot[0],), weight)):
                    self.assertIs(is_crowd(drawn[:place] + [bent] + drawn[place + 1:]), False, bent)
                self.assertIs(is_crowd(drawn[:place + 1] + drawn[place:]), False)
                self.assertIs(is_crowd(drawn[:place] + drawn[place + 1:]), True)
            if many > 1:
                self.assertIs(is_crowd(drawn[::-1]), False)

    def test_spots_that_rise_by_hardly_anything(self):
        near = 10 ** 39
        self.assertIs(is_crowd([((near, near + 1), (1, 1)), ((near + 1, near + 2), (1, near))]), True)
        self.assertIs(is_crowd([((near + 1, near + 2), (1, 1)), ((near, near + 1), (1, 1))]), False)

    def test_things_that_are_no_crowds(self):
        for thing in NOT_CROWDS:
            self.assertIs(is_crowd(thing), False, thing)


class TestSumsOf(unittest.TestCase):
    def test_plain_ones(self):
        self.assertEqual(sums_of(crowd((2, 3)), 4), [(3, 1), (6, 1), (12, 1), (24, 1)])
        self.assertEqual(sums_of(crowd((-1, "1/2"), ("1/2", 2)), 3), [(5, 2), (1, 2), (1, 1)])

    def test_the_power_0_of_0_is_1(self):
        self.assertEqual(sums_of(crowd((0, 5)), 3), [(5, 1), (0, 1), (0, 1)])
        self.assertEqual(sums_of(crowd((-1, 1), (0, 5), (1, 1)), 1), [(7, 1)])

    def test_without_spots_all_are_0(self):
        for many in (1, 2, 13):
            self.assertEqual(sums_of([], many), [(0, 1)] * many)

    def test_drawn_ones_of_all_sizes(self):
        chance = random.Random(2)
        for spots in range(7):
            for many in range(1, 14):
                drawn = some_crowd(chance, spots, 5)
                self.assertEqual(sums_of(drawn, many), sums_by_hand(drawn, many))

    def test_numbers_of_forty_figures(self):
        chance = random.Random(3)
        drawn = some_crowd(chance, 6, 40)
        self.assertEqual(sums_of(drawn, 13), sums_by_hand(drawn, 13))

    def test_more_spots_than_six(self):
        many = [(our(Fraction(k - 18, 7)), (k + 1, 2 * k + 1)) for k in range(36)]
        self.assertEqual(sums_of(many, 5), sums_by_hand(many, 5))


if __name__ == "__main__":
    unittest.main()
