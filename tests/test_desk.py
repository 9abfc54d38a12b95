"""Point 113, and points 3 and 4 as far as they speak of it: a desk."""

import random
import unittest

from momentwright.desk import Desk
from momentwright.errors import NoDeed, NoRow, NoSum
from momentwright.flocks import crowd_of
from momentwright.gauge import Gauge
from momentwright.stretches import stretches_hold
from momentwright.texts import crowd_text, fraction_text, read_fraction, sums_text
from support import FLOCKS, crowd, flock_sums_by_hand, nested, poly, some_crowd, some_fraction, sums_by_hand

QUESTIONS = ("sums", "next", "tight", "crowd", "roots 1", "roots 1/100")

NO_ROWS = (
    # Other words, words lacking, more words.
    "", " ", "x", "Put 1", "PUT 1", "puts 1", "pu 1", "take", "sum", "Sums", "SUMS", "nexts", "tights", "crowds", "root 1",
    "none", "ok", "nought", "put", "put ", "roots", "roots ", "back 1", "sums 1", "next 1", "tight 1", "crowd 1", "back back",
    "sums sums", "put put", "put 1 1", "put 1 2 3", "roots 1 1", "roots roots", "put put 1", "1 put", "1", "put none",
    "put nought", "roots none", "next from 1", "put\t1", "put\n1", "put1", "put:1", "put/1", "roots1", "sums;next",
    # Blanks.
    " sums", "sums ", "  sums", "sums\n", "\nsums", "sums\t", "su ms", " put 1", "put 1 ", "put  1", "put 1\n", "roots  1",
    " roots 1", "roots 1 ", "back ", " back", "next ", "tight ", "crowd ", "put\u00a01", "put 1\u00a0",
    # Numbers not so written.
    "put +1", "put 01", "put -0", "put 1/1", "put 2/4", "put 1/0", "put 1/-2", "put 0/1", "put 1.5", "put 1e3", "put x",
    "put 1_0", "put 1/", "put /2", "put --1", "put 1/2/3", "put \u0661", "put \u00bd", "put 1:1", "put (1, 1)", "put -",
    "roots +1", "roots 01", "roots 1/1", "roots 2/4", "roots 1/0", "roots x", "roots 0.5", "roots \uff11", "roots 1:1",
    # A width of 0 or below.
    "roots 0", "roots -1", "roots -1/2", "roots -0",
    # No texts.
    None, True, False, 0, 1, (), [], {}, ("sums",), ["sums"], ["put", "1"], ("put", "1"), ("put", (1, 1)), {"sums": 1},
    b"sums", nested(20), [[]], ("back",), (None,),
)


def answers(desk):
    """All that a desk answers, asked without a deed."""
    return [desk.say(row) for row in QUESTIONS]


def desk_of(sums):
    """A new desk that was told to put the sums."""
    desk = Desk()
    for number in sums:
        assert desk.say("put " + fraction_text(number)) == "ok"
    return desk


def stretches_in(answer):
    """The list of stretches that an answer tells."""
    if answer == "none":
        return []
    return [tuple(read_fraction(end) for end in word.split("..")) for word in answer.split(" ")]


class TestDesk(unittest.TestCase):
    def check(self, desk, sums):
        """The desk answers what a gauge tells of the sums."""
        gauge = Gauge()
        for number in sums:
            gauge.put(number)
        self.assertEqual(desk.say("sums"), sums_text(sums) if sums else "none")
        may = gauge.may_come()
        wanted = "none" if may is None else "any" if may == ("any",) else may[0] + " " + fraction_text(may[1])
        self.assertEqual(desk.say("next"), wanted)
        self.assertEqual(desk.say("tight"), "yes" if gauge.is_tight() else "no")
        pairs = crowd_of(gauge.some_flock()) if gauge.is_tight() else None
        self.assertEqual(desk.say("crowd"), "unsaid" if pairs is None else crowd_text(pairs))
        for width in ((1, 1), (1, 100), (7, 1)):
            answer = desk.say("roots " + fraction_text(width))
            if gauge.is_tight():
                self.assertIs(stretches_hold(gauge.some_flock()[0], width, stretches_in(answer)), True)
            else:
                self.assertEqual(answer, "unsaid")

    def test_with_none(self):
        desk = Desk()
        self.assertEqual(answers(desk), ["none", "from 0", "no", "unsaid", "unsaid", "unsaid"])
        with self.assertRaises(NoDeed):
            desk.say("back")
        with self.assertRaises(NoSum):
            desk.say("put -1")
        self.assertEqual(answers(desk), ["none", "from 0", "no", "unsaid", "unsaid", "unsaid"])

    def test_a_plain_talk(self):
        desk = Desk()
        for row, answer in (
            ("put 2", "ok"), ("sums", "2"), ("next", "any"), ("tight", "no"), ("crowd", "unsaid"), ("roots 1", "unsaid"),
            ("put 1/2", "ok"), ("sums", "2 1/2"), ("next", "from 1/8"), ("put 1/8", "ok"), ("tight", "yes"),
            ("next", "just 1/32"), ("crowd", "1/4:2"), ("back", "ok"), ("tight", "no"), ("put 2", "ok"), ("next", "any"),
            ("put -1/3", "ok"), ("sums", "2 1/2 2 -1/3"), ("back", "ok"), ("back", "ok"), ("back", "ok"), ("back", "ok"),
            ("sums", "none"), ("put 0", "ok"), ("tight", "yes"), ("crowd", "none"), ("roots 1/9", "none"), ("next", "just 0"),
        ):
            self.assertEqual(desk.say(row), answer, row)

    def test_open_sums(self):
        desk = desk_of([(1, k + 1) for k in range(11)])
        self.assertEqual(desk.say("next"), "none")
        self.assertEqual(answers(desk)[2:], ["no", "unsaid", "unsaid", "unsaid"])
        with self.assertRaises(NoSum):
            desk.say("put 1/12")
        self.check(desk, [(1, k + 1) for k in range(11)])

    def test_sums_of_crowds(self):
        chance = random.Random(94)
        for spots in range(6):
            drawn = some_crowd(chance, spots, 1)
            for many in sorted({1, 2, 2 * spots, 2 * spots + 1, 11}):
                sums = sums_by_hand(drawn, many)
                desk = desk_of(sums)
                self.check(desk, sums)
                self.assertEqual(desk.say("crowd"), crowd_text(drawn) if many > 2 * spots else "unsaid")

    def test_roots_that_are_no_fractions(self):
        for roots, weights in FLOCKS:
            sums = flock_sums_by_hand(roots, weights, 11)
            desk = desk_of(sums)
            self.check(desk, sums)
            self.assertEqual(desk.say("crowd"), "unsaid")
            if len(roots) < 7:
                told = stretches_in(desk.say("roots 1/1000"))
                self.assertIs(stretches_hold(roots, (1, 1000), told), True)
                self.assertEqual(len(told), len(roots) - 1)

    def test_how_stretches_are_written(self):
        desk = desk_of(flock_sums_by_hand(poly(-2, 0, 1), poly(1), 5))
        for width in ("1", "1/10", "3"):
            self.assertRegex(desk.say("roots " + width), r"^-?\d+(/\d+)?\.\.-?\d+(/\d+)? -?\d+(/\d+)?\.\.-?\d+(/\d+)?$")

    def test_rows_that_are_none(self):
        for sums in ([], poly(2), poly(2, 0, 2), flock_sums_by_hand(poly(-2, 0, 1), poly(1), 5), [(1, 1)] * 11):
            desk = desk_of(sums)
            before = answers(desk)
            for row in NO_ROWS:
                with self.assertRaises(NoRow, msg=row):
                    desk.say(row)
            self.assertEqual(answers(desk), before)
            self.check(desk, sums)

    def test_of_two_refusals_no_row_goes_first(self):
        full = desk_of([(1, 1)] * 11)
        for desk in (Desk(), full):
            for row in ("put -2/4", "put -1 ", "put -1 -1", "back ", "back 1", "put --1"):
                with self.assertRaises(NoRow):
                    desk.say(row)
        with self.assertRaises(NoSum):
            full.say("put 2")
        with self.assertRaises(NoDeed):
            Desk().say("back")

    def test_a_refused_row_leaves_all_as_it_was(self):
        desk = desk_of(poly(1, 2, 4))
        before = answers(desk)
        for row in ("put 9", "put 7", "put -8", "put 801/100"):
            with self.assertRaises(NoSum):
                desk.say(row)
            self.assertEqual(answers(desk), before)
        self.assertEqual(desk.say("put 8"), "ok")
        self.check(desk, poly(1, 2, 4, 8))

    def test_any_row_of_deeds(self):
        chance = random.Random(95)
        for turn in range(10):
            desk, gauge = Desk(), Gauge()
            for deed in range(30):
                may = gauge.may_come()
                number = may[1] if may and len(may) > 1 and chance.random() < 0.8 else some_fraction(chance, 1)
                if chance.random() < 0.3:
                    self.same(desk, "back", gauge.take)
                else:
                    self.same(desk, "put " + fraction_text(number), lambda: gauge.put(number))
                if chance.random() < 0.3:
                    with self.assertRaises(NoRow):
                        desk.say(chance.choice(NO_ROWS))
                self.check(desk, gauge.told())

    def same(self, desk, row, deed):
        """The row is answered with ok where the deed is done, else refused as it is."""
        try:
            deed()
        except (NoSum, NoDeed) as refusal:
            with self.assertRaises(refusal.__class__):
                desk.say(row)
        else:
            self.assertEqual(desk.say(row), "ok")

    def test_two_desks_have_nothing_in_common(self):
        one, other = Desk(), Desk()
        one.say("put 5")
        self.assertEqual(other.say("sums"), "none")
        with self.assertRaises(NoDeed):
            other.say("back")
        other.say("put 3")
        other.say("put 1")
        self.assertEqual((one.say("sums"), other.say("sums")), ("5", "3 1"))
        one.say("back")
        self.assertEqual((one.say("sums"), other.say("sums")), ("none", "3 1"))

    def test_sixty_figures(self):
        long_one = "1" + "0" * 59
        desk = Desk()
        for row in (f"put {long_one}", f"put -1/{long_one}"):
            self.assertEqual(desk.say(row), "ok")
        self.assertEqual(desk.say("sums"), f"{long_one} -1/{long_one}")
        self.assertEqual(desk.say("next"), f"from 1/1{'0' * 177}")
        self.assertEqual(desk.say("put " + "1/1" + "0" * 177), "ok")
        self.assertEqual(desk.say("crowd"), f"-1/1{'0' * 118}:{long_one}")
        self.check(desk_of(sums_by_hand(crowd((-1, 1), ("1/3", 10 ** 50)), 5)),
                   sums_by_hand(crowd((-1, 1), ("1/3", 10 ** 50)), 5))


if __name__ == "__main__":
    unittest.main()
