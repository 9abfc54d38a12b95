"""Points 71 to 73, 61 and point 4 as far as they speak of them: turns and rises, their sums, and walks."""

import itertools
import random
import unittest
from fractions import Fraction

from momentwright.errors import NoSums, NoWalk
from momentwright.more import is_tight, led_on
from momentwright.steps import steps
from momentwright.walks import sums_by, turns_of, walk_worth, walks_of
from support import (
    BARRED, crowd, cut, drawn_sums, flock_sums_by_hand, flocks_sums, nested, our, padded, poly, product, py, some_crowd,
    some_fraction, square, sums_by_hand,
)

MOTZKIN = (1, 1, 2, 4, 9, 21, 51, 127, 323, 835, 2188)
# Sums that some flock has: tight and open, even and odd in number.
PLAIN = (
    poly(0), poly(0, 0), poly(*[0] * 11), poly(5), poly("1/3", -2), poly(1, 1, 1), poly(2, 0, 2, 0, 2),
    poly(2, 0, 2, 0), [(1, k + 1) for k in range(11)], [(1, k + 1) for k in range(10)],
    flock_sums_by_hand(poly(-2, 0, 1), poly(3, 2), 11), flock_sums_by_hand(poly(1, -3, 0, 1), poly(5, 1, "1/7"), 7),
)


def turns_by_hand(sums):
    """The turns and rises, step by step, just as they are told."""
    turns, rises = [], []
    before, step, last = [], poly(1), None
    for place in range(len(sums)):
        if place & 1 == 0:
            height = square(sums, step, step)
            rises.append(height if last is None else height / last)
            if height == 0:
                break
        else:
            turns.append(square(sums, product(poly(0, 1), step), step) / height)
            longer = padded(product(poly(-turns[-1], 1), step), len(step) + 1)
            lesser = padded(before, len(step) + 1)
            before, step, last = step, cut(one - rises[-1] * other for one, other in zip(longer, lesser)), height
    return ([our(turn) for turn in turns], [our(rise) for rise in rises])


def some_good(chance, many, figures, last_0=False):
    """Good turns and rises, so many together."""
    turns = [some_fraction(chance, figures) for _ in range(many // 2)]
    rises = [our(abs(py(some_fraction(chance, figures))) or 1) for _ in range(many - many // 2)]
    if last_0:
        rises[-1] = (0, 1)
    return turns, rises


def all_good(seed, figures):
    """Good turns and rises, one to eleven together, the last rise 0 at times."""
    chance = random.Random(seed)
    for many in range(1, 12):
        yield some_good(chance, many, figures)
        if many & 1:
            yield some_good(chance, many, figures, True)


def matrix_sums(turns, rises, many):
    """The corners of the powers of the matrix that has turns, rises and 1 beside one another."""
    size = len(turns) + len(rises)
    row = [Fraction(0)] * size
    row[0] = py(rises[0])
    told = []
    for _ in range(many):
        told.append(our(row[0]))
        grown = [Fraction(0)] * size
        for k in range(size):
            grown[k] += row[k] * (py(turns[k]) if k < len(turns) else 0)
            if k + 1 < size:
                grown[k + 1] += row[k]
                grown[k] += row[k + 1] * (py(rises[k + 1]) if k + 1 < len(rises) else 0)
        row = grown
    return told


def walks_by_hand(paces, top):
    """All walks, found among all tuples."""
    told = []
    for paces_in_turn in itertools.product((-1, 0, 1), repeat=paces):
        heights = list(itertools.accumulate(paces_in_turn, initial=0))
        if heights[-1] == 0 and min(heights) >= 0 and max(heights[:-1], default=0) <= top:
            told.append(paces_in_turn)
    return sorted(told)


def worth_by_hand(walk, turns, rises):
    """The worth of a walk, None where it needs what is not there."""
    told, height = py(rises[0]), 0
    for pace in walk:
        among = {0: turns, -1: rises, 1: None}[pace]
        if among is not None:
            if height >= len(among):
                return None
            told *= py(among[height])
        height += pace
    return our(told)


class TestTurnsOf(unittest.TestCase):
    def test_plain_ones(self):
        self.assertEqual(turns_of(poly(5)), ([], poly(5)))
        self.assertEqual(turns_of(poly(0)), ([], poly(0)))
        self.assertEqual(turns_of(poly(0, 0, 0, 0)), ([], poly(0)))
        self.assertEqual(turns_of(poly(2, 3)), (poly("3/2"), poly(2)))
        self.assertEqual(turns_of(poly(1, 2, 4)), (poly(2), poly(1, 0)))
        self.assertEqual(turns_of(poly(1, 2, 5)), (poly(2), poly(1, 1)))
        self.assertEqual(turns_of(poly(2, 0, 2, 0, 2, 0)), (poly(0, 0), poly(2, 1, 0)))
        self.assertEqual(turns_of(poly(1, 1, 2, 4, 9, 21, 51, 127)), (poly(1, 1, 1, 1), poly(1, 1, 1, 1)))

    def test_as_they_are_told(self):
        chance = random.Random(40)
        for sums in PLAIN + tuple(flocks_sums(chance, turn % 11 + 1) for turn in range(110)):
            self.assertEqual(turns_of(sums), turns_by_hand(sums), sums)

    def test_as_many_as_the_sums_tell(self):
        chance = random.Random(41)
        for spots in range(6):
            drawn = some_crowd(chance, spots, 2)
            for many in range(1, 12):
                turns, rises = turns_of(sums_by_hand(drawn, many))
                if many > 2 * spots:
                    self.assertEqual((len(turns), len(rises)), (spots, spots + 1))
                    self.assertEqual(rises[-1], (0, 1))
                else:
                    self.assertEqual((len(turns), len(rises)), (many // 2, many - many // 2))
                    self.assertGreater(py(rises[-1]), 0)
                self.assertIs(type(turns), list)
                self.assertIs(type(rises), list)

    def test_so_steps_follow_one_another(self):
        chance = random.Random(42)
        for turn in range(40):
            sums = flocks_sums(chance, chance.randint(3, 11))
            turns, rises = turns_of(sums)
            ladder = [[]] + [step for step, _ in steps(sums)]
            for k in range(1, len(ladder) - 1):
                longer = padded(product(poly(-py(turns[k - 1]), 1), ladder[k]), k + 1)
                lesser = padded(ladder[k - 1], k + 1)
                by = py(rises[k - 1])
                self.assertEqual(ladder[k + 1], cut(one - by * other for one, other in zip(longer, lesser)))

    def test_sums_that_no_flock_has_are_refused(self):
        for sums in BARRED:
            with self.assertRaises(NoSums):
                turns_of(sums)


class TestSumsBy(unittest.TestCase):
    def test_plain_ones(self):
        self.assertEqual(sums_by([], poly(5)), poly(5))
        self.assertEqual(sums_by([], poly(0)), poly(0))
        self.assertEqual(sums_by(poly("3/2"), poly(2)), poly(2, 3))
        self.assertEqual(sums_by(poly(2), poly(1, 0)), poly(1, 2, 4))
        self.assertEqual(sums_by(poly(0, 0), poly(2, 1, 0)), poly(2, 0, 2, 0, 2))
        self.assertEqual(sums_by(poly(1, 1, 1, 1, 1), poly(1, 1, 1, 1, 1, 1)), poly(*MOTZKIN))

    def test_good_ones_come_back_from_their_sums(self):
        for figures in (1, 2, 5):
            for turns, rises in all_good(figures, figures):
                sums = sums_by(turns, rises)
                self.assertEqual(len(sums), len(turns) + len(rises))
                self.assertEqual(sums, matrix_sums(turns, rises, len(sums)))
                self.assertEqual(turns_of(sums), (turns, rises))
                self.assertEqual(turns_by_hand(sums), (turns, rises))

    def test_sums_come_back_from_their_turns_and_rises(self):
        chance = random.Random(43)
        kinds = set()
        for sums in PLAIN + tuple(flocks_sums(chance, turn % 11 + 1) for turn in range(66)):
            told = sums_by(*turns_of(sums))
            kinds.add(is_tight(sums))
            self.assertEqual(told, sums[:len(told)])
            self.assertEqual(led_on(told, len(sums) - len(told)), sums)
        self.assertEqual(len(kinds), 2)

    def test_the_last_rise_0_makes_tight_sums(self):
        for turns, rises in all_good(44, 2):
            self.assertIs(is_tight(sums_by(turns, rises)), rises[-1] == (0, 1))

    def test_forty_figures(self):
        chance = random.Random(45)
        turns, rises = some_good(chance, 11, 40)
        self.assertEqual(sums_by(turns, rises), matrix_sums(turns, rises, 11))

    def test_others_are_refused(self):
        turns, rises = poly(1, "-2/3", 0), poly(1, "2/3", 5)
        self.assertEqual(len(sums_by(turns, rises)), 6)
        self.assertEqual(len(sums_by(turns, rises + poly(0))), 7)
        zero_in = [rises[:k] + poly(0) + rises[k + 1:] for k in range(3)]
        below_in = [rises[:k] + poly("-1/7") + rises[k + 1:] for k in range(3)]
        bad = [
            # A rise out, two more, none; both none, twelve together.
            (turns, rises[:2]), (turns, rises + poly(1, 1)), (turns, []), ([], []), (poly(1), []), ([], poly(1, 1)),
            (poly(*[1] * 6), poly(*[1] * 6)), (poly(*[1] * 6), poly(*[1] * 7)), (poly(*[1] * 20), poly(*[1] * 20)),
            # The last rise 0 where they are not one more, or below 0 where they are.
            (turns, rises[:2] + poly(0)), (turns, rises + poly(-1)), ([], poly(-5)), ([], poly("-1/3")),
        ]
        bad += [(turns, one) for one in zero_in + below_in]
        bad += [(turns, one + poly(2)) for one in zero_in + below_in]
        bad += [(turns, one + poly(0)) for one in zero_in + below_in]
        for turns_bad, rises_bad in bad:
            with self.assertRaises(NoWalk):
                sums_by(turns_bad, rises_bad)

    def test_no_fractions_and_no_lists_are_refused(self):
        turns, rises = poly(1, "-2/3", 0), poly(1, "2/3", 5)
        odd = (None, True, 1, "1", (2, 2), (1, 0), (1, -1), (True, 1), (1, True), [1, 1], (), (1,), (1, 1, 1), {}, nested(19))
        for thing in odd:
            for k in range(3):
                for bad in ((turns[:k] + [thing] + turns[k + 1:], rises), (turns, rises[:k] + [thing] + rises[k + 1:])):
                    with self.assertRaises(NoWalk):
                        sums_by(*bad)
        for thing in odd + (False, 0, "", "ab", "abc", tuple(turns), tuple(rises), {1: 2, 3: 4, 5: 6}, [[], [], []]):
            for bad in ((thing, rises), (turns, thing), (thing, thing), (thing, poly(1)), ([], thing)):
                with self.assertRaises(NoWalk):
                    sums_by(*bad)


class TestWalksOf(unittest.TestCase):
    def test_plain_ones(self):
        self.assertEqual(walks_of(0, 0), [()])
        self.assertEqual(walks_of(0, 10 ** 29), [()])
        self.assertEqual(walks_of(1, 3), [(0,)])
        self.assertEqual(walks_of(2, 0), [(0, 0)])
        self.assertEqual(walks_of(2, 1), [(0, 0), (1, -1)])
        self.assertEqual(walks_of(3, 1), [(0, 0, 0), (0, 1, -1), (1, -1, 0), (1, 0, -1)])

    def test_all_of_them_rising(self):
        for paces in range(9):
            for top in range(6):
                self.assertEqual(walks_of(paces, top), walks_by_hand(paces, top), (paces, top))

    def test_how_many(self):
        for paces in range(11):
            for top in (5, 6, 10 ** 29):
                told = walks_of(paces, top)
                self.assertEqual(len(told), MOTZKIN[paces])
                self.assertEqual(told, sorted(set(told)))
            self.assertEqual(walks_of(paces, 0), [(0,) * paces])
        self.assertEqual(len(walks_of(10, 1)), 512)
        self.assertEqual(len(walks_of(10, 4)), MOTZKIN[10] - 1)


class TestWalkWorth(unittest.TestCase):
    def test_plain_ones(self):
        turns, rises = poly(2, 3), poly(5, 7, 11)
        self.assertEqual(walk_worth((), turns, rises), (5, 1))
        self.assertEqual(walk_worth((), [], poly(0)), (0, 1))
        self.assertEqual(walk_worth((0, 0), turns, rises), (20, 1))
        self.assertEqual(walk_worth((1, -1), turns, rises), (35, 1))
        self.assertEqual(walk_worth((1, 0, -1), turns, rises), (105, 1))
        self.assertEqual(walk_worth((1, 1, -1, 0, -1, 0), turns, rises), (5 * 11 * 3 * 7 * 2, 1))

    def test_refused_where_one_is_not_among_them(self):
        turns, rises = poly(2, 3), poly(5, 7, 11)
        for walk in ((1, 1, 0, -1, -1), (1, 1, 1, -1, -1, -1), (0, 1, 1, 0, -1, -1)):
            with self.assertRaises(NoWalk):
                walk_worth(walk, turns, rises)
        for walk, few, some in (((0,), [], poly(1)), ((1, -1), poly(1), poly(1)), ((1, 0, -1), poly(1), poly(1, 1))):
            with self.assertRaises(NoWalk):
                walk_worth(walk, few, some)

    def test_refused_also_behind_a_0(self):
        # The worth would be 0 already, but what it needs is not there.
        for walk, turns, rises in (((0, 0), [], poly(0)), ((1, 1, -1, -1), poly(0), poly(1, 0)),
                                   ((0, 1, 0, -1), poly(0), poly(1, 0))):
            with self.assertRaises(NoWalk):
                walk_worth(walk, turns, rises)
        self.assertEqual(walk_worth((1, -1), poly(4), poly(3, 0)), (0, 1))

    def test_by_hand(self):
        walks = [walk for paces in range(9) for walk in walks_of(paces, 9)]
        chance = random.Random(46)
        kinds = set()
        for turns, rises in all_good(46, 2):
            for walk in chance.sample(walks, 60):
                wanted = worth_by_hand(walk, turns, rises)
                kinds.add(wanted is None)
                if wanted is None:
                    with self.assertRaises(NoWalk):
                        walk_worth(walk, turns, rises)
                else:
                    self.assertEqual(walk_worth(walk, turns, rises), wanted)
        self.assertEqual(len(kinds), 2)


class TestWhole(unittest.TestCase):
    def total(self, paces, turns, rises):
        """The worths of all walks of so many paces together, and how many of them are refused."""
        told, refused = Fraction(0), 0
        for walk in walks_of(paces, 10):
            try:
                told += py(walk_worth(walk, turns, rises))
            except NoWalk:
                refused += 1
        return our(told), refused

    def test_a_sum_is_the_worths_of_all_walks(self):
        chance = random.Random(47)
        rows = [poly(*MOTZKIN), [(1, k + 1) for k in range(11)], sums_by_hand(crowd((-1, 1), (0, 2), (3, 1)), 10)]
        rows += [flocks_sums(chance, many) for many in range(1, 9)]
        rows += [flock_sums_by_hand(poly(-2, 0, 1), poly(3, 2), 8)]
        for sums in rows:
            turns, rises = turns_of(sums)
            for paces, number in enumerate(sums):
                told, refused = self.total(paces, turns, rises)
                self.assertEqual(told, number)
                if not is_tight(sums):
                    self.assertEqual(refused, 0)

    def test_a_top_below_leaves_out_what_a_0_would(self):
        sums = sums_by_hand(crowd((-1, 1), (0, 2), (3, 1)), 9)
        turns, rises = turns_of(sums)
        for paces, number in enumerate(sums):
            told = sum((py(walk_worth(walk, turns, rises)) for walk in walks_of(paces, 2)), Fraction(0))
            self.assertEqual(our(told), number)

    def test_drawn_sums_that_a_flock_has_or_not(self):
        chance = random.Random(48)
        for turn in range(60):
            sums = drawn_sums(chance, chance.randint(1, 11), 1)
            try:
                turns, rises = turns_of(sums)
            except NoSums:
                continue
            self.assertEqual(matrix_sums(turns, rises, len(sums)), sums)


if __name__ == "__main__":
    unittest.main()
