"""Point 3 for polynomials: what is handed in stays as it was, and what is told is the asker's own."""

import copy
import unittest

from momentwright.errors import NoPolynomial
from momentwright.polynomials import (
    grown, is_polynomial, led, lessened, multiplied, number_at, parted, shared, slope, summed,
)
from support import poly

LISTS = (
    [], poly(1), poly(3), poly(0, 1), poly(-1, 1), poly(1, 1), poly(1, "1/2", "-2/3"), poly(-1, 0, 1), poly(1, 2, 1),
)

FRACTIONS = ((0, 1), (1, 1), (-2, 3))

BY_TWO = (summed, lessened, multiplied, parted, shared)
BY_FRACTION = (grown, number_at)
BY_ONE = (slope, led, is_polynomial)


def questions():
    """Tuples (ask, handed in) of all questions about the lists, each with lists of its own."""
    rows = [(ask, [f, g]) for ask in BY_TWO for f in LISTS for g in LISTS if ask != parted or g]
    rows += [(ask, [f, x]) for ask in BY_FRACTION for f in LISTS for x in FRACTIONS]
    rows += [(ask, [f]) for ask in BY_ONE for f in LISTS]
    return [(ask, copy.deepcopy(handed)) for ask, handed in rows]


def lists_of(told):
    """The lists in what was told."""
    if isinstance(told, list):
        return [told]
    if isinstance(told, tuple):
        return [part for part in told if isinstance(part, list)]
    return []


class TestOwn(unittest.TestCase):
    def test_what_is_handed_in_stays_and_the_answer_is_the_same_again(self):
        for ask, handed in questions():
            before = copy.deepcopy(handed)
            told = ask(*handed)
            self.assertEqual(handed, before, ask.__name__)
            self.assertEqual(ask(*handed), told, ask.__name__)

    def test_no_list_that_is_told_was_handed_in_nor_stands_twice(self):
        for ask, handed in questions():
            mine = lists_of(ask(*handed))
            others = [thing for thing in handed if isinstance(thing, list)]
            for place, one in enumerate(mine):
                for other in mine[place + 1:] + others:
                    self.assertIsNot(one, other, ask.__name__)

    def test_what_is_told_may_be_changed(self):
        for ask, handed in questions():
            before = copy.deepcopy(handed)
            told = ask(*handed)
            kept = copy.deepcopy(told)
            for one in lists_of(told):
                one.append((99, 1))
                one.reverse()
            self.assertEqual(handed, before, ask.__name__)
            self.assertEqual(ask(*handed), kept, ask.__name__)

    def test_one_told_list_changed_leaves_the_other(self):
        quotient, rest = parted([], poly(1, 1))
        quotient.append((1, 1))
        self.assertEqual(rest, [])

    def test_what_was_handed_in_may_be_changed_later(self):
        for ask, handed in questions():
            told = ask(*handed)
            kept = copy.deepcopy(told)
            for thing in handed:
                if isinstance(thing, list):
                    thing.append((99, 1))
                    thing.reverse()
            self.assertEqual(told, kept, ask.__name__)

    def test_the_same_list_handed_in_twice(self):
        for ask in BY_TWO:
            for f in LISTS:
                if ask == parted and not f:
                    continue
                same = copy.deepcopy(f)
                told = ask(same, same)
                self.assertEqual(told, ask(copy.deepcopy(f), copy.deepcopy(f)), ask.__name__)
                self.assertEqual(same, f, ask.__name__)
                for one in lists_of(told):
                    self.assertIsNot(one, same, ask.__name__)

    def test_a_refusal_changes_nothing(self):
        for f in LISTS:
            handed, nought = copy.deepcopy(f), []
            for _ in range(2):
                with self.assertRaises(NoPolynomial):
                    parted(handed, nought)
            self.assertEqual((handed, nought), (f, []))
        same = []
        with self.assertRaises(NoPolynomial):
            parted(same, same)
        self.assertEqual(same, [])

    def test_a_thing_that_is_no_polynomial_stays_as_it_was(self):
        thing = [(1, 1), [(1, 2), {"a": [None, True]}], (0, 1)]
        before = copy.deepcopy(thing)
        self.assertIs(is_polynomial(thing), False)
        self.assertEqual(thing, before)


if __name__ == "__main__":
    unittest.main()
