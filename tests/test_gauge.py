"""Point 112, and points 3 and 4 as far as they speak of it: a gauge."""

import random
import unittest
from fractions import Fraction

from momentwright.back import back
from momentwright.crowds import sums_of
from momentwright.errors import NoDeed, NoSum
from momentwright.flocks import is_flock
from momentwright.gauge import Gauge
from momentwright.more import is_tight, next_sum
from support import BARRED, FLOCKS, crowd, flock_sums_by_hand, our, poly, py, some_crowd, some_fraction

EMPTY = (poly(1), [])
NEAR = Fraction(1, 10 ** 9)


def gauge_of(sums):
    """A new gauge that was put the sums."""
    gauge = Gauge()
    for number in sums:
        gauge.put(number)
    return gauge


def all_told(gauge):
    """All that a gauge tells."""
    return (gauge.told(), gauge.may_come(), gauge.is_tight(), gauge.some_flock())


class TestGauge(unittest.TestCase):
    def check(self, gauge, sums):
        """The gauge tells what is right of the sums, and what a new one tells that was put them."""
        self.assertEqual(gauge.told(), sums)
        roots, weights = flock = gauge.some_flock()
        self.assertIs(is_flock(flock), True)
        self.assertEqual(all_told(gauge), all_told(gauge_of(sums)))
        if not sums:
            self.assertEqual((gauge.may_come(), gauge.is_tight(), flock), (("from", (0, 1)), False, EMPTY))
            return
        self.assertEqual(flock_sums_by_hand(roots, weights, len(sums)), sums)
        self.assertIs(gauge.is_tight(), is_tight(sums))
        self.assertEqual(gauge.may_come(), next_sum(sums) if len(sums) < 11 else None)

    def test_with_none(self):
        gauge = Gauge()
        self.assertEqual(gauge.told(), [])
        self.assertEqual(gauge.may_come(), ("from", (0, 1)))
        self.assertIs(gauge.is_tight(), False)
        self.assertEqual(gauge.some_flock(), EMPTY)
        with self.assertRaises(NoDeed):
            gauge.take()
        with self.assertRaises(NoSum):
            gauge.put((-1, 10 ** 30))
        self.check(gauge, [])

    def test_put_and_taken_back(self):
        gauge = Gauge()
        self.assertIsNone(gauge.put((2, 1)))
        self.assertEqual((gauge.told(), gauge.may_come(), gauge.is_tight()), (poly(2), ("any",), False))
        self.assertIsNone(gauge.put((0, 1)))
        self.assertEqual((gauge.may_come(), gauge.is_tight()), (("from", (0, 1)), False))
        with self.assertRaises(NoSum):
            gauge.put((-1, 7))
        self.assertEqual(gauge.told(), poly(2, 0))
        gauge.put((0, 1))
        self.assertEqual((gauge.may_come(), gauge.is_tight()), (("just", (0, 1)), True))
        self.assertEqual(gauge.some_flock(), (poly(0, 1), poly(2)))
        for number in ((1, 1), (-1, 1), (1, 10 ** 30)):
            with self.assertRaises(NoSum):
                gauge.put(number)
        self.assertIsNone(gauge.take())
        self.assertEqual(gauge.told(), poly(2, 0))
        gauge.put((2, 1))
        self.check(gauge, poly(2, 0, 2))
        for left in (poly(2, 0), poly(2), []):
            gauge.take()
            self.check(gauge, left)
        with self.assertRaises(NoDeed):
            gauge.take()
        self.check(gauge, [])

    def test_a_first_sum_of_0(self):
        gauge = gauge_of(poly(0))
        self.assertIs(gauge.is_tight(), True)
        self.assertEqual(gauge.may_come(), ("just", (0, 1)))
        self.assertEqual(gauge.some_flock(), EMPTY)
        for number in ((1, 1), (-1, 1)):
            with self.assertRaises(NoSum):
                gauge.put(number)
        for many in range(2, 12):
            gauge.put((0, 1))
            self.check(gauge, poly(*[0] * many))

    def test_a_twelfth_is_refused(self):
        for sums in ([(1, k + 1) for k in range(11)], sums_of(crowd((-1, 1), (2, 1)), 11), poly(*[0] * 11)):
            gauge = gauge_of(sums)
            self.check(gauge, sums)
            self.assertIsNone(gauge.may_come())
            for number in ((1, 12), (0, 1), (10 ** 20, 1), sums_of(crowd((-1, 1), (2, 1)), 12)[-1]):
                with self.assertRaises(NoSum):
                    gauge.put(number)
            self.check(gauge, sums)
            gauge.take()
            self.assertEqual(gauge.may_come(), next_sum(sums[:10]))
            gauge.put(sums[10])
            self.check(gauge, sums)

    def test_sums_that_no_flock_has_are_not_put(self):
        for sums in BARRED:
            gauge = Gauge()
            with self.assertRaises(NoSum):
                for number in sums:
                    gauge.put(number)
            put = gauge.told()
            self.assertEqual(put, sums[:len(put)])
            self.assertNotEqual(back(sums[:len(put) + 1])[0], "flock")

    def test_roots_that_are_no_fractions(self):
        for roots, weights in FLOCKS:
            sums = flock_sums_by_hand(roots, weights, 11)
            gauge = gauge_of(sums)
            self.check(gauge, sums)
            if len(roots) < 7:
                self.assertEqual(gauge.some_flock(), (roots, weights))

    def test_any_row_of_deeds(self):
        chance = random.Random(92)
        for turn in range(12):
            gauge, sums = Gauge(), []
            for deed in range(35):
                number = self.some_number(chance, gauge)
                if chance.random() < 0.3:
                    self.take(gauge, sums)
                else:
                    self.put(gauge, sums, number)
                self.check(gauge, sums)

    def some_number(self, chance, gauge):
        """A number that may come, or one that is nearly so, or another one."""
        may = gauge.may_come()
        number = some_fraction(chance, 1)
        if may is None or may == ("any",) or chance.random() < 0.1:
            return number
        by = chance.choice((0, 0, 0, NEAR, -NEAR, abs(py(number)), -1))
        return our(py(may[1]) + by)

    def take(self, gauge, sums):
        """A sum is taken back, or refused where there is none."""
        if sums:
            gauge.take()
            sums.pop()
        else:
            with self.assertRaises(NoDeed):
                gauge.take()

    def put(self, gauge, sums, number):
        """A sum is put, or refused where no flock has it."""
        if len(sums) < 11 and back(sums + [number])[0] == "flock":
            gauge.put(number)
            sums.append(number)
        else:
            with self.assertRaises(NoSum):
                gauge.put(number)

    def test_two_gauges_have_nothing_in_common(self):
        one, other = Gauge(), Gauge()
        one.put((5, 1))
        self.check(other, [])
        with self.assertRaises(NoDeed):
            other.take()
        other.put((3, 1))
        other.put((1, 1))
        self.check(one, poly(5))
        other.take()
        self.check(one, poly(5))
        self.check(other, poly(3))

    def test_what_is_told_is_the_askers_own(self):
        chance = random.Random(93)
        for spots in range(4):
            sums = sums_of(some_crowd(chance, spots, 1), 7)
            gauge = gauge_of(sums)
            kept = all_told(gauge)
            told = gauge.told()
            told.append((9, 1))
            told[0] = (7, 1)
            roots, weights = gauge.some_flock()
            roots.append((9, 1))
            weights.clear()
            self.assertEqual(all_told(gauge), kept)
            self.assertIsNot(gauge.told(), gauge.told())

    def test_an_empty_gauge_tells_new_lists_too(self):
        gauge = Gauge()
        for one in (gauge.told(), *gauge.some_flock()):
            one.append((9, 1))
        self.check(gauge, [])
        self.check(Gauge(), [])


if __name__ == "__main__":
    unittest.main()
