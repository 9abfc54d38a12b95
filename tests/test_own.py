"""Point 3: what is handed in stays as it was, and what is told is the asker's own."""

import copy
import unittest

from momentwright.back import back, bars
from momentwright.chains import chain, how_many, signs_at
from momentwright.crowds import is_crowd, sums_of
from momentwright.errors import NoFlock, NoFraction, NoPolynomial, NoSums, NoText, NoWalk
from momentwright.flocks import crowd_of, flock_of, flock_sums, is_flock
from momentwright.fractions import is_fraction, over, ratio
from momentwright.joins import (
    crowd_added, crowd_grown, crowd_moved, crowd_multiplied, crowd_poured, crowd_weighted, flock_grown, flock_moved,
    sums_added, sums_grown, sums_moved, sums_multiplied, sums_poured, sums_weighted,
)
from momentwright.more import fewest, is_tight, led_on, next_sum
from momentwright.onward import back_from, bar_from_holds, even_sums, sums_from
from momentwright.polynomials import (
    grown, is_polynomial, led, lessened, multiplied, number_at, parted, shared, slope, summed,
)
from momentwright.quotients import first_sums, flock_by, quotient_of
from momentwright.spots import flock_at, least_square, shows_most, weight_up_to
from momentwright.steps import by_steps, steps
from momentwright.stretches import fraction_roots, stretches, stretches_hold
from momentwright.sums import square_sum, worth
from momentwright.texts import (
    crowd_text, fraction_text, polynomial_text, read_crowd, read_fraction, read_polynomial, read_sums, sums_text,
)
from momentwright.walks import sums_by, turns_of, walk_worth, walks_of
from support import crowd, poly, with_roots

POLYNOMIALS = (
    [], poly(1), poly(3), poly(0, 1), poly(-1, 1), poly(1, 1), poly(1, "1/2", "-2/3"), poly(-1, 0, 1), poly(1, 2, 1),
)
ROOTED = (poly(3), poly(-2, 0, 1), with_roots(1, 1, 2), with_roots(-1, 0, 0, 0, 5), poly(1, 0, 1), poly(1, -3, 0, 1))
FRACTIONS = ((0, 1), (1, 1), (-2, 3))
CROWDS = ([], crowd((0, 1)), crowd((-1, "1/2"), ("1/3", 2)), crowd((-1, 1), (0, 1), (2, 1)))
SUMS = (
    poly(0), poly(5), poly(-1, 2), poly(1, 0, 1), poly(2, 0, 2, 0, 2), poly(0, 0, 3),
    poly(1, "1/2", "1/3", "1/4", "1/5"),
)
FLOCKS = ((poly(1), []), (poly(0, 1), poly(3)), (poly(-1, 0, 1), poly(2, 1)), (poly(-2, 0, 1), poly(3, 2)))
HAD = (poly(0), poly(0, 0, 0), poly(5), poly(1, 0), poly(1, 0, 1), poly(2, 0, 2, 0, 2), poly(1, "1/2", "1/3", "1/4"))
BARRED = (poly(-1), poly(0, 2), poly(1, 1, 0), poly(1, 1, 1, 3), poly(2, 0, 2, 0, 1))
GOOD = (([], poly(5)), ([], poly(0)), (poly(2), poly(1)), (poly(-1, 0), poly(2, "1/3", 0)), (poly(1, 1), poly(1, 1, 4)))
BAD = (([], []), (poly(1), []), (poly(1, 1), poly(1, 0)), ([], poly(-1)), (poly(1), poly(0, 1)), ([[]], [[]]))
QUOTIENTS = (([], poly(1)), (poly(2), poly(-1, 1)), (poly(0, 2), poly(-1, 0, 1)), (poly(8, 6), poly(-2, 0, 1)))
NO_QUOTIENTS = (([], []), (poly(1), poly(1)), (poly(1), poly(-1, 2)), ([], poly(0, 1)), (poly(1), poly(1, 0, 1)))
THINGS = (
    [(1, 1), [(1, 2), {"a": [None, True]}], (0, 1)], [((0, 1), (1, 1)), [[], ["a"]]], {"a": [1, [2]]}, ([[]], [{}]),
    None,
)


def rows():
    """Tuples (ask, handed in) of questions that are answered."""
    told = [(ask, [f, g]) for ask in (summed, lessened, multiplied, shared) for f in POLYNOMIALS for g in POLYNOMIALS]
    told += [(parted, [f, g]) for f in POLYNOMIALS for g in POLYNOMIALS if g]
    told += [(ask, [f, x]) for ask in (grown, number_at) for f in POLYNOMIALS for x in FRACTIONS]
    told += [(ask, [f]) for ask in (slope, led, is_polynomial) for f in POLYNOMIALS]
    told += [(ask, [thing]) for ask in (is_polynomial, is_crowd) for thing in THINGS + CROWDS]
    told += [(sums_of, [one, many]) for one in CROWDS for many in (1, 5)]
    told += [(steps, [sums]) for sums in SUMS]
    told += [(ask, [sums, f]) for ask in (worth, by_steps) for sums in SUMS for f in ([], poly(3))]
    told += [(square_sum, [SUMS[-1], f, g]) for f in POLYNOMIALS for g in POLYNOMIALS]
    told += [(by_steps, [SUMS[-1], f]) for f in POLYNOMIALS]
    told += [(chain, [f]) for f in ROOTED]
    told += [(how_many, [f, low, high]) for f in ROOTED for low in (None, (0, 1)) for high in (None, (0, 1), (2, 1))]
    told += [(signs_at, [f, g]) for f in ROOTED for g in POLYNOMIALS]
    told += [(stretches, [f, width]) for f in ROOTED for width in ((3, 1), (1, 100))]
    told += [(stretches_hold, [f, (1, 1), thing]) for f in ROOTED for thing in THINGS + ([((1, 1), (2, 1))],)]
    told += [(fraction_roots, [f]) for f in ROOTED]
    told += [(is_flock, [thing]) for thing in THINGS + FLOCKS]
    told += [(flock_of, [one]) for one in CROWDS] + [(crowd_of, [flock]) for flock in FLOCKS]
    told += [(flock_sums, [flock, many]) for flock in FLOCKS for many in (1, 5)]
    told += [(bars, [sums, thing]) for sums in SUMS for thing in THINGS + (("below", [(1, 1)]), ("nought", [], []))]
    told += [(back, [sums]) for sums in SUMS + HAD + BARRED]
    told += [(ask, [sums]) for ask in (is_tight, next_sum, fewest) for sums in HAD]
    told += [(led_on, [sums, many]) for sums in HAD for many in (0, 1, 3)]
    return told + later_rows() + last_rows()


def later_rows():
    """Those of walks, quotients, told spots and from a spot on."""
    told = [(turns_of, [sums]) for sums in HAD] + [(sums_by, list(good)) for good in GOOD]
    told += [(walks_of, [paces, top]) for paces in (0, 1, 5) for top in (0, 1, 9)]
    told += [(walk_worth, [(), *good]) for good in GOOD] + [(walk_worth, [(0, 1, -1), *GOOD[-1]])]
    told += [(quotient_of, [flock]) for flock in FLOCKS] + [(flock_by, list(pair)) for pair in QUOTIENTS]
    told += [(first_sums, [*pair, many]) for pair in QUOTIENTS for many in (0, 1, 7)]
    told += [(flock_at, [sums, x]) for sums in HAD if len(sums) & 1 for x in FRACTIONS]
    told += [(least_square, [sums, x]) for sums in HAD for x in FRACTIONS]
    told += [(shows_most, [sums, (1, 1), x, f]) for sums in HAD for x in FRACTIONS for f in POLYNOMIALS]
    told += [(shows_most, [sums, (1, 1), thing, thing]) for sums in HAD for thing in THINGS]
    told += [(weight_up_to, [flock, x, (1, 5)]) for flock in FLOCKS for x in FRACTIONS]
    told += [(sums_from, [sums, x]) for sums in SUMS for x in FRACTIONS if len(sums) > 1]
    told += [(ask, [sums, x]) for ask in (back_from, even_sums) for sums in SUMS + HAD + BARRED for x in FRACTIONS]
    bars_from = tuple((word, [(1, 1)], at) for word in ("below", "nought") for at in (0, 1))
    told += [(bar_from_holds, [sums, (2, 1), thing]) for sums in SUMS for thing in THINGS + bars_from]
    return told


def last_rows():
    """Those of joins and texts."""
    told = [(ask, [sums, x]) for ask in (sums_moved, sums_grown, sums_weighted) for sums in SUMS for x in FRACTIONS]
    pairs = [(one, other) for one in SUMS for other in SUMS]
    told += [(ask, list(pair)) for ask in (sums_poured, sums_added, sums_multiplied) for pair in pairs]
    told += [(ask, [one, x]) for ask in (crowd_moved, crowd_grown) for one in CROWDS for x in FRACTIONS]
    told += [(crowd_weighted, [one, (2, 3)]) for one in CROWDS]
    pairs = [(one, other) for one in CROWDS for other in CROWDS]
    told += [(ask, list(pair)) for ask in (crowd_poured, crowd_added, crowd_multiplied) for pair in pairs]
    told += [(ask, [flock, x]) for ask in (flock_moved, flock_grown) for flock in FLOCKS for x in FRACTIONS[1:]]
    told += [(flock_moved, [flock, (0, 1)]) for flock in FLOCKS]
    told += [(is_fraction, [thing]) for thing in THINGS + FRACTIONS] + [(fraction_text, [x]) for x in FRACTIONS]
    told += [(sums_text, [sums]) for sums in SUMS] + [(polynomial_text, [f]) for f in POLYNOMIALS]
    told += [(crowd_text, [one]) for one in CROWDS]
    told += [(read_fraction, ["1/2"]), (read_sums, ["1 0"]), (read_crowd, ["0:1 1/2:3"]), (read_crowd, ["none"])]
    return told + [(read_polynomial, [text]) for text in ("nought", "0 1")]


def refused_rows():
    """Tuples (ask, handed in, refusal) of questions that are refused."""
    told = [(parted, [f, []], NoPolynomial) for f in POLYNOMIALS]
    told += [(chain, [[]], NoPolynomial), (how_many, [[], (1, 1), (0, 1)], NoPolynomial)]
    told += [(signs_at, [[], g], NoPolynomial) for g in POLYNOMIALS]
    told += [(ask, [sums, poly(*range(1, 8))], NoSums) for ask in (worth, by_steps) for sums in SUMS]
    told += [(square_sum, [sums, poly(1, 2, 3), poly(1, 2, 3, 4)], NoSums) for sums in SUMS]
    told += [(stretches, [[], (1, 1)], NoPolynomial), (fraction_roots, [[]], NoPolynomial)]
    told += [(stretches_hold, [[], (1, 1), thing], NoPolynomial) for thing in THINGS]
    told += [(ask, [sums], NoSums) for ask in (is_tight, next_sum, fewest) for sums in BARRED]
    told += [(led_on, [sums, 2], NoSums) for sums in BARRED]
    told += [(turns_of, [sums], NoSums) for sums in BARRED]
    told += [(ask, [sums, (1, 1)], NoSums) for ask in (flock_at, least_square) for sums in BARRED]
    told += [(flock_at, [sums, (1, 1)], NoSums) for sums in HAD if not len(sums) & 1]
    told += [(shows_most, [sums, (1, 1), thing, thing], NoSums) for sums in BARRED for thing in THINGS]
    told += [(sums_by, list(bad), NoWalk) for bad in BAD]
    told += [(walk_worth, [(1, 1, 1, -1, -1, -1), *good], NoWalk) for good in GOOD]
    told += [(flock_by, list(pair), NoFlock) for pair in NO_QUOTIENTS]
    readers = (read_fraction, read_sums, read_polynomial, read_crowd)
    told += [(ask, [thing], NoText) for ask in readers for thing in THINGS + ("", "1 ", "2/4", "1:0")]
    told += [(ratio, [1, 0], NoFraction), (ratio, [0, 0], NoFraction)]
    told += [(over, [x, (0, 1)], NoFraction) for x in FRACTIONS]
    return told


def questions():
    """The questions that are answered, each with lists of its own handed in."""
    return [(ask, copy.deepcopy(handed)) for ask, handed in rows()]


def lists_of(thing):
    """All lists in a thing, however deep, itself among them, each as often as it stands there."""
    told = [thing] if isinstance(thing, list) else []
    if isinstance(thing, dict):
        thing = list(thing.values())
    if isinstance(thing, (list, tuple)):
        for part in thing:
            told += lists_of(part)
    return told


def spoil(thing):
    """Change all lists in a thing."""
    for one in lists_of(thing):
        one.append((99, 1))
        one.reverse()


class TestOwn(unittest.TestCase):
    def test_what_is_handed_in_stays_and_the_answer_is_the_same_again(self):
        for ask, handed in questions():
            before = copy.deepcopy(handed)
            told = ask(*handed)
            self.assertEqual(handed, before, ask.__name__)
            self.assertEqual(ask(*handed), told, ask.__name__)

    def test_no_list_that_is_told_was_handed_in_nor_stands_twice(self):
        for ask, handed in questions():
            mine = lists_of(ask(*handed))
            mine_again = lists_of(ask(*handed))
            others = lists_of(handed)
            for place, one in enumerate(mine):
                for other in mine[place + 1:] + mine_again + others:
                    self.assertIsNot(one, other, ask.__name__)

    def test_what_is_told_may_be_changed(self):
        for ask, handed in questions():
            before = copy.deepcopy(handed)
            told = ask(*handed)
            kept = copy.deepcopy(told)
            spoil(told)
            self.assertEqual(handed, before, ask.__name__)
            self.assertEqual(ask(*handed), kept, ask.__name__)

    def test_lists_changed_between_two_questions(self):
        # Changed and changed back, what was handed in is the same question again.
        for ask, handed in questions():
            kept = copy.deepcopy(ask(*handed))
            for one in lists_of(handed):
                one.append((99, 1))
            for one in lists_of(handed):
                if one[-1:] == [(99, 1)]:
                    one.pop()
            self.assertEqual(ask(*handed), kept, ask.__name__)

    def test_one_told_list_changed_leaves_the_other(self):
        quotient, rest = parted([], poly(1, 1))
        quotient.append((1, 1))
        self.assertEqual(rest, [])
        first, second = chain(poly(1, 1))
        first.append((1, 1))
        self.assertEqual(second, poly(1))

    def test_what_was_handed_in_may_be_changed_later(self):
        for ask, handed in questions():
            told = ask(*handed)
            kept = copy.deepcopy(told)
            spoil(handed)
            self.assertEqual(told, kept, ask.__name__)

    def test_the_same_list_handed_in_twice(self):
        asks = (summed, lessened, multiplied, shared, parted, signs_at)
        for ask in asks:
            for f in POLYNOMIALS:
                if ask in (parted, signs_at) and not f:
                    continue
                same = copy.deepcopy(f)
                told = ask(same, same)
                self.assertEqual(told, ask(copy.deepcopy(f), copy.deepcopy(f)), ask.__name__)
                self.assertEqual(same, f, ask.__name__)
                for one in lists_of(told):
                    self.assertIsNot(one, same, ask.__name__)

    def test_the_same_list_at_several_places(self):
        asks = (
            (sums_by, lambda f, g: [f, g], poly(1, 2)), (walk_worth, lambda f, g: [(0,), f, g], poly(1, 2)),
            (first_sums, lambda f, g: [[], f, 5], poly(1)), (shows_most, lambda f, g: [f, (1, 1), f, g], poly(1, 0, 1)),
            (bar_from_holds, lambda f, g: [f, (1, 1), ("nought", f, g, 0)], poly(1, 0, 1)),
            (worth, lambda f, g: [f, g], poly(1, 0, 1)), (square_sum, lambda f, g: [f + f, f, g], poly(1, 0, 1)),
            (by_steps, lambda f, g: [f, g], poly(1)), (bars, lambda f, g: [f, ("nought", g, f)], poly(0)),
            (is_flock, lambda f, g: [(f, g)], poly(1)), (stretches_hold, lambda f, g: [f, (1, 1), g], poly(1)),
            (sums_poured, lambda f, g: [f, g], poly(1, 2)), (sums_added, lambda f, g: [f, g], poly(1, 2)),
            (sums_multiplied, lambda f, g: [f, g], poly(1, 2)),
            (crowd_poured, lambda f, g: [f, g], crowd((0, 1), (2, 3))),
            (crowd_added, lambda f, g: [f, g], crowd((0, 1), (2, 3))),
            (crowd_multiplied, lambda f, g: [f, g], crowd((-1, 1), (2, 3))),
        )
        for ask, hand_in, f in asks:
            same = copy.deepcopy(f)
            told = ask(*hand_in(same, same))
            self.assertEqual(told, ask(*copy.deepcopy(hand_in(f, copy.deepcopy(f)))), ask.__name__)
            self.assertEqual(same, f, ask.__name__)
            for one in lists_of(told):
                self.assertIsNot(one, same, ask.__name__)

    def test_a_refusal_changes_nothing_and_comes_again(self):
        for ask, handed, refusal in refused_rows():
            given = copy.deepcopy(handed)
            for _ in range(2):
                with self.assertRaises(refusal) as caught:
                    ask(*given)
                self.assertIs(caught.exception.__class__, refusal)
            self.assertEqual(given, handed, ask.__name__)


if __name__ == "__main__":
    unittest.main()
