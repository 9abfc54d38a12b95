"""Point 74: quotients of flocks, flocks by their quotients, and division by falling powers."""

import random
import unittest
from fractions import Fraction

from momentwright.errors import NoFlock
from momentwright.flocks import flock_of, flock_sums, is_flock
from momentwright.quotients import first_sums, flock_by, quotient_of
from support import (
    FLOCKS, cross, crowd, cut, flock_sums_by_hand, our, padded, poly, product, py, some_crowd, some_polynomial,
    some_roots, total, value, with_roots,
)

EMPTY = (poly(1), [])


def over_by_hand(pairs):
    """What is over the roots of a crowd: each weight times the others' x less their spot, all together."""
    told = []
    for place, (_, weight) in enumerate(pairs):
        others = with_roots(*[py(spot) for spot, _ in pairs[:place] + pairs[place + 1:]])
        told = total(told, product(others, [weight]))
    return told


def falling_by_hand(over, under, many):
    """The numbers of over times a great power of x, divided by under."""
    rest = [Fraction(0)] * many + padded(over, len(under) - 1)
    told = []
    for _ in range(many):
        times = rest.pop() if len(under) > 1 else Fraction(0)
        told.append(our(times))
        for k, number in enumerate(under[:-1]):
            rest[len(rest) - len(under) + 1 + k] -= times * py(number)
    return told


def some_flock(chance):
    """Some flock, with roots that are fractions and others, or None where the draw gives none."""
    unlike = {tuple(root.least()): root.least() for root in some_roots(chance, chance.randint(1, 3))}
    roots = cross(*unlike.values())
    weights = some_polynomial(chance, chance.randint(1, len(roots) - 1), 1)
    flock = (roots, cut([py(weights[0]) + 40] + [py(number) for number in weights[1:]]))
    return flock if is_flock(flock) else None


def drawn_flocks(seed, many):
    """So many flocks."""
    chance = random.Random(seed)
    told = []
    while len(told) < many:
        flock = some_flock(chance)
        if flock is not None:
            told.append(flock)
    return told


class TestQuotientOf(unittest.TestCase):
    def test_plain_ones(self):
        self.assertEqual(quotient_of(EMPTY), ([], poly(1)))
        self.assertEqual(quotient_of((poly(-3, 1), poly("2/5"))), (poly("2/5"), poly(-3, 1)))
        self.assertEqual(quotient_of((poly(-1, 0, 1), poly(1))), (poly(0, 2), poly(-1, 0, 1)))
        self.assertEqual(quotient_of((poly(-2, 0, 1), poly(3, 2))), (poly(8, 6), poly(-2, 0, 1)))

    def test_of_crowds(self):
        chance = random.Random(50)
        for spots in range(7):
            for figures in (1, 4):
                drawn = some_crowd(chance, spots, figures)
                flock = flock_of(drawn)
                over, under = quotient_of(flock)
                self.assertEqual(over, over_by_hand(drawn))
                self.assertEqual(under, with_roots(*[py(spot) for spot, _ in drawn]))
                for number in (Fraction(1, 10 ** 9), -10 ** 7, 10 ** 7 + Fraction(1, 3)):
                    wanted = sum((py(weight) / (number - py(spot)) for spot, weight in drawn), Fraction(0))
                    self.assertEqual(value(over, number), wanted * value(under, number))

    def test_of_roots_that_are_no_fractions(self):
        for flock in FLOCKS + tuple(drawn_flocks(51, 30)):
            over, under = quotient_of(flock)
            self.assertEqual(under, flock[0])
            self.assertLess(len(over), len(under))
            self.assertEqual(falling_by_hand(over, under, 13), flock_sums_by_hand(flock[0], flock[1], 13))


class TestFlockBy(unittest.TestCase):
    def test_plain_ones(self):
        self.assertEqual(flock_by([], poly(1)), EMPTY)
        self.assertEqual(flock_by(poly("2/5"), poly(-3, 1)), (poly(-3, 1), poly("2/5")))
        self.assertEqual(flock_by(poly(0, 2), poly(-1, 0, 1)), (poly(-1, 0, 1), poly(1)))

    def test_a_flock_comes_back_from_its_quotient(self):
        chance = random.Random(52)
        flocks = [flock_of(some_crowd(chance, spots, figures)) for spots in range(7) for figures in (1, 3)]
        for flock in flocks + list(FLOCKS) + drawn_flocks(53, 40) + [EMPTY]:
            self.assertEqual(flock_by(*quotient_of(flock)), flock)

    def refuse(self, over, under):
        """It is refused with NoFlock."""
        with self.assertRaises(NoFlock):
            flock_by(over, under)

    def test_under_bent(self):
        for under in ([], poly(2), poly("1/2"), poly(-1)):
            self.refuse([], under)
            self.refuse(poly(1), under)
        self.refuse(poly(1), poly(1))
        # Not led by 1, though the quotient is a flock's.
        self.refuse(poly(2), poly(-6, 2))
        self.refuse(poly(0, 4), poly(-2, 0, 2))
        self.refuse(poly(0, -2), poly(1, 0, -1))
        # A root twice, none that is real, seven of them, and more.
        self.refuse(poly(1), poly(1, -2, 1))
        self.refuse(poly(-2, 2), poly(1, -2, 1))
        self.refuse(over_by_hand(crowd((0, 1), (1, 1), (2, 1))), with_roots(0, 1, 1))
        self.refuse(poly(0, 2), poly(1, 0, 1))
        self.refuse(poly(1), poly(1, 0, 1))
        self.refuse(poly(0, 0, 3), poly(-2, 0, 0, 1))
        for many in (7, 8, 12):
            pairs = crowd(*[(k, 1) for k in range(many)])
            self.refuse(over_by_hand(pairs), with_roots(*range(many)))
        self.assertEqual(flock_by(over_by_hand(crowd(*[(k, 1) for k in range(6)])), with_roots(*range(6))),
                         (with_roots(*range(6)), poly(1)))

    def test_over_bent(self):
        for flock in FLOCKS + tuple(drawn_flocks(54, 10)):
            over, under = quotient_of(flock)
            self.refuse([], under)
            self.refuse(cut(-py(number) for number in over), under)
            # Of as great a degree and of greater, though by a rest it is a flock's.
            self.refuse(total(over, under), under)
            self.refuse(product(over, poly(0, 1)) if len(over) == len(under) - 1 else under, under)
            self.refuse(total(over, product(poly(1, 1), under)), under)

    def test_over_shares_a_root_with_under(self):
        pairs = crowd((-1, 2), (0, 1), ("5/2", 3))
        under = with_roots(-1, 0, "5/2")
        for place, (spot, _) in enumerate(pairs):
            rest = over_by_hand(pairs[:place] + pairs[place + 1:])
            self.refuse(product(rest, poly(-py(spot), 1)), under)
        # The roots of 2 are in both.
        self.refuse(cross(poly(-2, 0, 1), poly(1)), cross(poly(-2, 0, 1), poly(0, 1)))

    def test_a_number_of_over_changed(self):
        chance = random.Random(55)
        kinds = set()
        for turn in range(150):
            spots = chance.randint(1, 4)
            drawn = some_crowd(chance, spots, 1)
            over, under = quotient_of(flock_of(drawn))
            numbers = padded(over, spots)
            numbers[chance.randrange(spots)] += chance.choice((1, -1, Fraction(1, 5), -7, 30))
            over = cut(numbers)
            roots = [py(spot) for spot, _ in drawn]
            weights = []
            for place, root in enumerate(roots):
                others = with_roots(*roots[:place], *roots[place + 1:])
                weights.append(value(over, root) / value(others, root))
            kinds.add(min(weights) > 0)
            if min(weights) > 0:
                wanted = [(our(root), our(weight)) for root, weight in zip(roots, weights)]
                self.assertEqual(flock_by(over, under), flock_of(wanted))
            else:
                self.refuse(over, under)
        self.assertEqual(len(kinds), 2)


class TestFirstSums(unittest.TestCase):
    def test_plain_ones(self):
        self.assertEqual(first_sums(poly(3), poly(-2, 1), 4), poly(3, 6, 12, 24))
        self.assertEqual(first_sums(poly(3), poly(-2, 1), 0), [])
        self.assertEqual(first_sums([], poly(1), 5), poly(0, 0, 0, 0, 0))
        self.assertEqual(first_sums([], poly(7, 1, 1), 3), poly(0, 0, 0))
        self.assertEqual(first_sums(poly(1), poly(1, 0, 1), 6), poly(0, 1, 0, -1, 0, 1))
        self.assertEqual(first_sums(poly(1, 1), poly(-1, -1, 1), 6), poly(1, 2, 3, 5, 8, 13))

    def test_drawn_ones(self):
        chance = random.Random(56)
        for turn in range(120):
            degree = chance.randint(0, 12)
            under = some_polynomial(chance, degree, 2) if degree else []
            under = [number for number in under] + poly(1)
            over = some_polynomial(chance, chance.randint(0, degree), 2)
            for many in (0, 1, chance.randint(2, 30), 30):
                told = first_sums(over, under, many)
                self.assertEqual(told, falling_by_hand(over, under, many))
                self.assertEqual(len(told), many)

    def test_of_a_flock_they_are_its_sums(self):
        for flock in FLOCKS + tuple(drawn_flocks(57, 20)) + (EMPTY,):
            over, under = quotient_of(flock)
            self.assertEqual(first_sums(over, under, 13), flock_sums_by_hand(flock[0], flock[1], 13))
            self.assertEqual(first_sums(over, under, 7), flock_sums(flock, 7))


if __name__ == "__main__":
    unittest.main()
