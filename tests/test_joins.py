"""Points 101 to 104, and point 4 as far as it speaks of them: moved, grown, weighted, poured, added, multiplied."""

import random
import unittest
from fractions import Fraction
from math import comb

from momentwright.crowds import is_crowd, sums_of
from momentwright.flocks import crowd_of, flock_of, flock_sums, is_flock
from momentwright.joins import (
    crowd_added, crowd_grown, crowd_moved, crowd_multiplied, crowd_poured, crowd_weighted, flock_grown, flock_moved,
    sums_added, sums_grown, sums_moved, sums_multiplied, sums_poured, sums_weighted,
)
from momentwright.polynomials import number_at
from support import (
    BARRED, FLOCKS, Surd, crowd, drawn_sums, flock_sums_by_hand, our, poly, py, some_crowd, some_fraction, sums_by_hand,
    surds_of, value, with_roots,
)

EMPTY = (poly(1), [])
FRACTIONS = ((0, 1), (1, 1), (-1, 1), (2, 3), (-5, 2))


def crowd_by_hand(pairs):
    """The crowd of some pairs of Python's own fractions, in whatever order and with spots perhaps alike."""
    weights = {}
    for spot, weight in pairs:
        weights[spot] = weights.get(spot, 0) + weight
    return [(our(spot), our(weights[spot])) for spot in sorted(weights)]


def pairs_of(one):
    """The spots and weights of a crowd as Python's own fractions."""
    return [(py(spot), py(weight)) for spot, weight in one]


def moved_by_hand(sums, by):
    """Moved sums, by the powers of two numbers together."""
    return [our(sum(comb(k, j) * py(by) ** (k - j) * py(sums[j]) for j in range(k + 1))) for k in range(len(sums))]


def added_by_hand(one, other):
    """Added sums, by the powers of two numbers together."""
    many = min(len(one), len(other))
    return [our(sum(comb(k, j) * py(one[j]) * py(other[k - j]) for j in range(k + 1))) for k in range(many)]


def some_crowds(seed, figures=1):
    """Pairs of crowds of none to six spots, some of them alike in both."""
    chance = random.Random(seed)
    for spots in range(7):
        for others in range(7):
            one, other = some_crowd(chance, spots, figures), some_crowd(chance, others, figures)
            yield one, other


class TestSums(unittest.TestCase):
    def test_plain_ones(self):
        self.assertEqual(sums_moved(poly(1, 2, 4), (3, 1)), poly(1, 5, 25))
        self.assertEqual(sums_moved(poly(1, 2, 4), (-2, 1)), poly(1, 0, 0))
        self.assertEqual(sums_grown(poly(1, 2, 4), (-1, 2)), poly(1, -1, 1))
        self.assertEqual(sums_grown(poly(3, 2, 4), (0, 1)), poly(3, 0, 0))
        self.assertEqual(sums_weighted(poly(1, 2, 4), (1, 2)), poly("1/2", 1, 2))
        self.assertEqual(sums_weighted(poly(1, 2, 4), (0, 1)), poly(0, 0, 0))
        self.assertEqual(sums_poured(poly(1, 2, 4), poly(2, "1/2")), poly(3, "5/2"))
        self.assertEqual(sums_added(poly(1, 2, 4), poly(1, 3, 9)), poly(1, 5, 25))
        self.assertEqual(sums_multiplied(poly(1, 2, 4), poly(1, 3, 9, 27)), poly(1, 6, 36))

    def test_by_hand_also_where_no_crowd_has_them(self):
        chance = random.Random(80)
        drawn = [drawn_sums(chance, many, figures) for many in range(1, 12) for figures in (1, 3, 40)]
        for sums in drawn + list(BARRED):
            for by in FRACTIONS + (some_fraction(chance, 40),):
                self.assertEqual(sums_moved(sums, by), moved_by_hand(sums, by))
                self.assertEqual(sums_grown(sums, by), [our(py(one) * py(by) ** k) for k, one in enumerate(sums)])
                self.assertEqual(sums_weighted(sums, by), [our(py(one) * py(by)) for one in sums])

    def test_two_by_hand_of_unlike_length(self):
        chance = random.Random(81)
        for one_many in range(1, 12):
            for other_many in (1, 4, 11, one_many):
                one, other = drawn_sums(chance, one_many, 2), drawn_sums(chance, other_many, 2)
                pairs = [(py(former), py(latter)) for former, latter in zip(one, other)]
                self.assertEqual(sums_poured(one, other), [our(former + latter) for former, latter in pairs])
                self.assertEqual(sums_multiplied(one, other), [our(former * latter) for former, latter in pairs])
                self.assertEqual(sums_added(one, other), added_by_hand(one, other))

    def test_forty_figures(self):
        chance = random.Random(82)
        one, other = ([some_fraction(chance, 40) for _ in range(11)] for _ in range(2))
        self.assertEqual(sums_added(one, other), added_by_hand(one, other))


class TestCrowds(unittest.TestCase):
    def test_plain_ones(self):
        one, other = crowd((-1, 2), (0, 1), (3, "1/2")), crowd((0, 1), (1, 3))
        self.assertEqual(crowd_moved(one, (1, 2)), crowd(("-1/2", 2), ("1/2", 1), ("7/2", "1/2")))
        self.assertEqual(crowd_grown(one, (-2, 1)), crowd((-6, "1/2"), (0, 1), (2, 2)))
        self.assertEqual(crowd_grown(one, (0, 1)), crowd((0, "7/2")))
        self.assertEqual(crowd_weighted(one, (2, 3)), crowd((-1, "4/3"), (0, "2/3"), (3, "1/3")))
        self.assertEqual(crowd_poured(one, other), crowd((-1, 2), (0, 2), (1, 3), (3, "1/2")))
        self.assertEqual(crowd_added(one, other), crowd((-1, 2), (0, 7), (1, 3), (3, "1/2"), (4, "3/2")))
        self.assertEqual(crowd_multiplied(one, other), crowd((-1, 6), (0, "13/2"), (3, "3/2")))

    def test_none(self):
        one = crowd((-1, 2), (3, 1))
        for by in FRACTIONS:
            self.assertEqual(crowd_moved([], by), [])
            self.assertEqual(crowd_grown([], by), [])
        self.assertEqual(crowd_weighted([], (3, 1)), [])
        self.assertEqual((crowd_poured(one, []), crowd_poured([], one), crowd_poured([], [])), (one, one, []))
        for ask in (crowd_added, crowd_multiplied):
            self.assertEqual((ask(one, []), ask([], one), ask([], [])), ([], [], []))

    def test_one_crowd_by_hand(self):
        for drawn, _ in some_crowds(83):
            pairs = pairs_of(drawn)
            for by in FRACTIONS:
                x = py(by)
                self.assertEqual(crowd_moved(drawn, by), crowd_by_hand((spot + x, weight) for spot, weight in pairs))
                self.assertEqual(crowd_grown(drawn, by), crowd_by_hand((spot * x, weight) for spot, weight in pairs))
                if x > 0:
                    wanted = crowd_by_hand((spot, weight * x) for spot, weight in pairs)
                    self.assertEqual(crowd_weighted(drawn, by), wanted)

    def test_two_crowds_by_hand(self):
        merged = set()
        for one, other in some_crowds(84):
            poured, added, multiplied = crowd_poured(one, other), crowd_added(one, other), crowd_multiplied(one, other)
            formers, latters = pairs_of(one), pairs_of(other)
            both = [(former, latter) for former in formers for latter in latters]
            self.assertEqual(poured, crowd_by_hand(formers + latters))
            self.assertEqual(added, crowd_by_hand((x + y, v * w) for (x, v), (y, w) in both))
            self.assertEqual(multiplied, crowd_by_hand((x * y, v * w) for (x, v), (y, w) in both))
            for told in (poured, added, multiplied):
                self.assertIs(is_crowd(told), True)
            merged.add((len(poured) < len(one + other), len(added) < len(both), len(multiplied) < len(both)))
        self.assertIn((True, True, True), merged)

    def test_a_crowd_with_itself(self):
        one = crowd((-1, 2), (0, 1), (3, "1/2"))
        self.assertEqual(crowd_poured(one, one), crowd_weighted(one, (2, 1)))
        self.assertEqual(len(crowd_added(one, one)), 6)
        self.assertEqual(len(crowd_multiplied(one, one)), 4)

    def test_thirty_six_spots_and_these_handed_in_again(self):
        one = crowd(*[(k, k + 1) for k in range(6)])
        other = crowd(*[(Fraction(k, 7) - 9, 1) for k in range(6)])
        for ask in (crowd_added, crowd_multiplied):
            told = ask(one, [(spot, weight) for spot, weight in other])
            if ask == crowd_added:
                self.assertEqual(len(told), 36)
            pairs = pairs_of(told)
            self.assertIs(is_crowd(told), True)
            self.assertEqual(crowd_moved(told, (-1, 3)), crowd_by_hand((x - Fraction(1, 3), v) for x, v in pairs))
            self.assertEqual(crowd_grown(told, (-2, 1)), crowd_by_hand((-2 * x, v) for x, v in pairs))
            self.assertEqual(crowd_grown(told, (0, 1)), crowd_by_hand((0, v) for _, v in pairs))
            self.assertEqual(crowd_weighted(told, (1, 9)), crowd_by_hand((x, v / 9) for x, v in pairs))
            self.assertEqual(crowd_poured(told, one), crowd_by_hand(pairs + pairs_of(one)))
            for again in (ask(told, one), ask(one, told), ask(told, told)):
                self.assertIs(is_crowd(again), True)
            self.assertEqual(sums_of(ask(told, told), 5), sums_by_hand(ask(told, told), 5))

    def test_forty_figures(self):
        chance = random.Random(85)
        one, other = some_crowd(chance, 6, 40), some_crowd(chance, 6, 40)
        told = crowd_added(one, other)
        self.assertIs(is_crowd(told), True)
        self.assertEqual(sums_of(told, 4), added_by_hand(sums_by_hand(one, 4), sums_by_hand(other, 4)))


class TestFlocks(unittest.TestCase):
    def test_plain_ones(self):
        self.assertEqual(flock_moved((poly(-2, 1), poly(3)), (1, 2)), (poly("-5/2", 1), poly(3)))
        self.assertEqual(flock_grown((poly(-2, 1), poly(3)), (-1, 2)), (poly(1, 1), poly(3)))
        self.assertEqual(flock_moved((poly(-2, 0, 1), poly(3, 2)), (1, 1)), (poly(-1, -2, 1), poly(1, 2)))
        self.assertEqual(flock_grown((poly(-2, 0, 1), poly(3, 2)), (2, 1)), (poly(-8, 0, 1), poly(3, 1)))
        self.assertEqual(flock_grown((poly(-2, 0, 1), poly(3, 2)), (-1, 1)), (poly(-2, 0, 1), poly(3, -2)))

    def test_no_roots(self):
        for by in FRACTIONS:
            self.assertEqual(flock_moved(EMPTY, by), EMPTY)
            if by != (0, 1):
                self.assertEqual(flock_grown(EMPTY, by), EMPTY)

    def test_flocks_of_crowds(self):
        for drawn, _ in some_crowds(86, 2):
            for by in FRACTIONS:
                self.assertEqual(flock_moved(flock_of(drawn), by), flock_of(crowd_moved(drawn, by)))
                if by != (0, 1):
                    self.assertEqual(flock_grown(flock_of(drawn), by), flock_of(crowd_grown(drawn, by)))

    def test_roots_that_are_no_fractions(self):
        for flock in FLOCKS:
            sums = flock_sums_by_hand(flock[0], flock[1], 13)
            for by in FRACTIONS:
                told = flock_moved(flock, by)
                self.assertIs(is_flock(told), True)
                self.assertEqual(flock_sums_by_hand(told[0], told[1], 13), moved_by_hand(sums, by))
                if by == (0, 1):
                    self.assertEqual(told, flock)
                    continue
                told = flock_grown(flock, by)
                self.assertIs(is_flock(told), True)
                wanted = [our(py(one) * py(by) ** k) for k, one in enumerate(sums)]
                self.assertEqual(flock_sums_by_hand(told[0], told[1], 13), wanted)

    def test_the_weights_stay_as_they_were_at_their_roots(self):
        flock = (poly(-2, 0, 1), poly(3, 2))
        roots = surds_of([Surd(0, 1, 2)])
        moved, grown = flock_moved(flock, (5, 3)), flock_grown(flock, (-3, 1))
        for root in roots:
            weight = root.put_in(flock[1])
            for told, there in ((moved, Surd(Fraction(5, 3), root.times)), (grown, Surd(0, -3 * root.times))):
                nought, same = there.put_in(told[0]), there.put_in(told[1])
                self.assertEqual((nought.part, nought.times), (0, 0))
                self.assertEqual((same.part, same.times), (weight.part, weight.times))

    def test_led_by_1_and_the_numbers_at_moved_spots(self):
        chance = random.Random(87)
        for flock in FLOCKS:
            by = some_fraction(chance, 3)
            roots, weights = flock_moved(flock, by)
            self.assertEqual(roots[-1], (1, 1))
            for x in (Fraction(0), Fraction(-7, 3), Fraction(11)):
                self.assertEqual(value(roots, x + py(by)), value(flock[0], x))
                self.assertEqual(value(weights, x + py(by)), value(flock[1], x))


class TestWhole(unittest.TestCase):
    def test_sums_crowds_and_flocks_tell_the_same_of_one(self):
        for drawn, _ in some_crowds(88, 2):
            flock = flock_of(drawn)
            sums = sums_of(drawn, 9)
            for by in FRACTIONS:
                self.assertEqual(sums_moved(sums, by), sums_of(crowd_moved(drawn, by), 9))
                self.assertEqual(sums_moved(sums, by), flock_sums(flock_moved(flock, by), 9))
                self.assertEqual(sums_grown(sums, by), sums_of(crowd_grown(drawn, by), 9))
                if by != (0, 1):
                    self.assertEqual(sums_grown(sums, by), flock_sums(flock_grown(flock, by), 9))
                    self.assertEqual(crowd_of(flock_grown(flock, by)), crowd_grown(drawn, by))
                if py(by) > 0:
                    self.assertEqual(sums_weighted(sums, by), sums_of(crowd_weighted(drawn, by), 9))

    def test_sums_and_crowds_tell_the_same_of_two(self):
        for one, other in some_crowds(89, 2):
            ones, others = sums_of(one, 7), sums_of(other, 9)
            self.assertEqual(sums_poured(ones, others), sums_of(crowd_poured(one, other), 7))
            self.assertEqual(sums_added(ones, others), sums_of(crowd_added(one, other), 7))
            self.assertEqual(sums_multiplied(ones, others), sums_of(crowd_multiplied(one, other), 7))

    def test_moved_there_and_back(self):
        for flock in FLOCKS:
            self.assertEqual(flock_moved(flock_moved(flock, (5, 3)), (-5, 3)), flock)
            self.assertEqual(flock_grown(flock_grown(flock, (-5, 3)), (-3, 5)), flock)
        for sums in BARRED:
            self.assertEqual(sums_moved(sums_moved(sums, (5, 3)), (-5, 3)), sums)
            self.assertEqual(sums_grown(sums_grown(sums, (5, 3)), (3, 5)), sums)

    def test_moved_roots_are_where_the_numbers_are_0(self):
        told = flock_moved(flock_of(crowd((1, 1), (4, 2))), (-3, 1))
        self.assertEqual(told[0], with_roots(-2, 1))
        self.assertEqual([number_at(told[1], spot) for spot in ((-2, 1), (1, 1))], poly(1, 2))


if __name__ == "__main__":
    unittest.main()
