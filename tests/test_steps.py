"""Points 31 and 32, and point 4 as far as it speaks of steps."""

import random
import unittest
from fractions import Fraction

from momentwright.crowds import sums_of
from momentwright.errors import NoSums
from momentwright.steps import by_steps, steps
from support import (
    crowd, cut, drawn_sums, our, padded, poly, py, some_crowd, some_polynomial, square, sums_by_hand, total, with_roots,
)


def steps_by_hand(sums):
    """The steps, each from the power of x less what it has of the steps ahead."""
    told = []
    for k in range((len(sums) + 1) // 2):
        bare = poly(*[0] * k, 1)
        step = bare
        for ahead, its in told:
            times = -square(sums, bare, ahead) / py(its)
            step = total(step, cut(times * py(number) for number in ahead))
        told.append((step, our(square(sums, step, step))))
        if told[-1][1][0] <= 0:
            break
    return told


class TestSteps(unittest.TestCase):
    def test_plain_ones(self):
        self.assertEqual(steps(poly(5)), [(poly(1), (5, 1))])
        self.assertEqual(steps(poly(2, 0, 2)), [(poly(1), (2, 1)), (poly(0, 1), (2, 1))])
        self.assertEqual(steps(poly(1, "1/2", "1/3")), [(poly(1), (1, 1)), (poly("-1/2", 1), (1, 12))])

    def test_only_those_whose_square_sum_the_sums_tell(self):
        sums = [our(Fraction(1, k + 1)) for k in range(11)]
        for many in range(1, 12):
            told = steps(sums[:many])
            self.assertEqual(len(told), (many + 1) // 2)
            self.assertEqual([len(step) for step, its in told], list(range(1, len(told) + 1)))
            self.assertEqual(told, steps_by_hand(sums[:many]))

    def test_it_ends_with_the_first_square_sum_that_is_not_above_0(self):
        self.assertEqual(steps(poly(0, 1, 2, 3, 4)), [(poly(1), (0, 1))])
        self.assertEqual(steps(poly(-1, 1, 2, 3, 4)), [(poly(1), (-1, 1))])
        self.assertEqual(steps(poly(1, 1, 1, 7, 9)), [(poly(1), (1, 1)), (poly(-1, 1), (0, 1))])
        self.assertEqual(steps(poly(1, 1, 0, 7, 9)), [(poly(1), (1, 1)), (poly(-1, 1), (-1, 1))])
        self.assertEqual(len(steps(poly(1, 0, 1, 0, 1, 0, 1, 0, 1, 0, 1))), 3)

    def test_all_0_but_the_last(self):
        for many in range(2, 12):
            self.assertEqual(steps(poly(*[0] * (many - 1), 3)), [(poly(1), (0, 1))])
        self.assertEqual(steps(poly(3)), [(poly(1), (3, 1))])
        self.assertEqual(steps(poly(0)), [(poly(1), (0, 1))])

    def test_what_a_step_is(self):
        chance = random.Random(8)
        for turn in range(60):
            sums = drawn_sums(chance, chance.randint(1, 11), 6)
            told = steps(sums)
            for k, (step, its) in enumerate(told):
                self.assertEqual((len(step), step[-1]), (k + 1, (1, 1)))
                self.assertEqual(py(its), square(sums, step, step))
                self.assertEqual(its[0] > 0 or k == len(told) - 1, True)
                for j in range(k):
                    self.assertEqual(square(sums, step, poly(*[0] * j, 1)), 0)

    def test_drawn_ones(self):
        chance = random.Random(9)
        for turn in range(150):
            sums = drawn_sums(chance, turn % 11 + 1, chance.choice((1, 3, 12)))
            self.assertEqual(steps(sums), steps_by_hand(sums))

    def test_numbers_of_forty_figures(self):
        sums = sums_by_hand(some_crowd(random.Random(10), 3, 40), 7)
        self.assertEqual(steps(sums), steps_by_hand(sums))

    def test_of_a_crowd_with_n_spots_the_step_of_degree_n_has_them_as_roots(self):
        chance = random.Random(11)
        for spots in range(6):
            for figures in (1, 2, 8):
                drawn = some_crowd(chance, spots, figures)
                for many in range(2 * spots + 1, 14):
                    told = steps(sums_of(drawn, many))
                    self.assertEqual([its[0] > 0 for step, its in told], [True] * spots + [False])
                    self.assertEqual(told[-1], (with_roots(*[py(spot) for spot, weight in drawn]), (0, 1)))
                for many in range(1, 2 * spots + 1):
                    told = steps(sums_of(drawn, many))
                    self.assertEqual([its[0] > 0 for step, its in told], [True] * ((many + 1) // 2))


class TestBySteps(unittest.TestCase):
    def test_plain_ones(self):
        sums = poly(1, "1/2", "1/3")
        self.assertEqual(by_steps(sums, poly(3)), [(3, 1)])
        self.assertEqual(by_steps(sums, poly(0, 2)), [(1, 1), (2, 1)])
        self.assertEqual(by_steps(sums, poly("-1/2", 1)), [(0, 1), (1, 1)])

    def test_nought_has_none_of_them(self):
        self.assertEqual(by_steps(poly(1), []), [])
        self.assertEqual(by_steps(poly(0), []), [])
        self.assertEqual(by_steps(poly(-1, 2, 3), []), [])

    def test_the_steps_come_to_it_together(self):
        chance = random.Random(12)
        for turn in range(120):
            sums = drawn_sums(chance, chance.randint(1, 11), chance.choice((1, 5)))
            ladder = steps(sums)
            f = some_polynomial(chance, chance.randint(0, len(ladder)), 5)
            told = by_steps(sums, f)
            self.assertEqual(len(told), len(f))
            wanted = [Fraction(0)] * len(f)
            for many, (step, its) in zip(told, ladder):
                wanted = [one + py(many) * other for one, other in zip(wanted, padded(step, len(f)))]
            self.assertEqual(cut(wanted), f)
            squares = sum((py(many) ** 2 * py(its) for many, (step, its) in zip(told, ladder)), Fraction(0))
            self.assertEqual(squares, square(sums, f, f))

    def test_the_last_step_may_have_the_square_sum_0_or_below(self):
        self.assertEqual(by_steps(poly(0), poly(4)), [(4, 1)])
        self.assertEqual(by_steps(poly(-2, 5), poly("1/3")), [(1, 3)])
        sums = sums_of(crowd((1, 1), (3, 1)), 7)
        self.assertEqual(by_steps(sums, poly(3, -4, 1)), [(0, 1), (0, 1), (1, 1)])
        self.assertEqual(by_steps(sums, poly(0, 0, 2)), [(10, 1), (8, 1), (2, 1)])

    def test_a_greater_degree_is_refused(self):
        chance = random.Random(13)
        for turn in range(60):
            sums = drawn_sums(chance, chance.randint(1, 11), 3)
            last = len(steps(sums))
            self.assertEqual(len(by_steps(sums, some_polynomial(chance, last, 3))), last)
            for more in (1, 2, 6):
                with self.assertRaises(NoSums):
                    by_steps(sums, some_polynomial(chance, last + more, 3))

    def test_a_greater_degree_than_half_is_refused_also_where_the_sums_are_many(self):
        even = [our(Fraction(1, k + 1)) for k in range(6)]
        self.assertEqual(len(by_steps(even, poly(1, 1, 1))), 3)
        with self.assertRaises(NoSums):
            by_steps(even, poly(1, 1, 1, 1))


if __name__ == "__main__":
    unittest.main()
