"""Points 3 and 4 over the whole program, and the interface: all names, and parts that must tell the same."""

import importlib
import inspect
import random
import unittest

from momentwright import errors
from momentwright.back import back
from momentwright.chains import chain, how_many, signs_at
from momentwright.crowds import sums_of
from momentwright.desk import Desk
from momentwright.errors import MomentError, NoFraction, NoPolynomial, NoRow, NoSum, NoSums
from momentwright.flocks import flock_of
from momentwright.fractions import over, plus, ratio, times
from momentwright.gauge import Gauge
from momentwright.joins import (
    crowd_added, crowd_grown, crowd_moved, crowd_multiplied, crowd_poured, flock_grown, flock_moved, sums_added,
    sums_grown, sums_moved, sums_multiplied, sums_poured, sums_weighted,
)
from momentwright.more import is_tight, led_on, next_sum
from momentwright.onward import back_from
from momentwright.quotients import first_sums, flock_by, quotient_of
from momentwright.spots import flock_at, least_square, shows_most
from momentwright.stretches import stretches, stretches_hold
from momentwright.texts import crowd_text, fraction_text, read_crowd, read_sums, sums_text
from momentwright.walks import sums_by, turns_of
from support import BARRED, crowd, flocks_sums, has_flock, poly, some_crowd, some_fraction

INTERFACE = {
    "fractions": "is_fraction(thing) ratio(top,bottom) plus(one,other) minus(one,other) times(one,other) over(one,other) "
                 "is_less(one,other)",
    "polynomials": "is_polynomial(thing) summed(f,g) lessened(f,g) multiplied(f,g) grown(f,by) slope(f) led(f) "
                   "number_at(f,x) parted(f,g) shared(f,g)",
    "crowds": "is_crowd(thing) sums_of(crowd,many)",
    "sums": "worth(sums,f) square_sum(sums,f,g)",
    "steps": "steps(sums) by_steps(sums,f)",
    "chains": "chain(f) how_many(f,low,high) signs_at(f,g)",
    "stretches": "stretches(f,width) stretches_hold(f,width,thing) fraction_roots(f)",
    "flocks": "is_flock(thing) flock_of(crowd) crowd_of(flock) flock_sums(flock,many)",
    "back": "bars(sums,thing) back(sums)",
    "more": "next_sum(sums) fewest(sums) is_tight(sums) led_on(sums,many)",
    "walks": "turns_of(sums) sums_by(turns,rises) walks_of(paces,top) walk_worth(walk,turns,rises)",
    "quotients": "quotient_of(flock) flock_by(over,under) first_sums(over,under,many)",
    "spots": "flock_at(sums,spot) least_square(sums,spot) shows_most(sums,spot,number,f) weight_up_to(flock,spot,width)",
    "onward": "sums_from(sums,spot) back_from(sums,spot) bar_from_holds(sums,spot,thing) even_sums(sums,spot)",
    "joins": "sums_moved(sums,by) sums_grown(sums,by) sums_weighted(sums,by) sums_poured(one,other) "
             "sums_added(one,other) sums_multiplied(one,other) crowd_moved(crowd,by) crowd_grown(crowd,by) "
             "crowd_weighted(crowd,by) crowd_poured(one,other) crowd_added(one,other) crowd_multiplied(one,other) "
             "flock_moved(flock,by) flock_grown(flock,by)",
    "texts": "fraction_text(one) sums_text(sums) polynomial_text(f) crowd_text(crowd) read_fraction(text) "
             "read_sums(text) read_polynomial(text) read_crowd(text)",
}
GAUGE = "put(self,number) take(self) told(self) may_come(self) is_tight(self) some_flock(self)"
ERRORS = "NoFraction NoPolynomial NoSums NoFlock NoWalk NoSum NoDeed NoText NoRow".split()


class TestInterface(unittest.TestCase):
    def check(self, owner, listed):
        """The owner has what is listed, with the arguments as they are listed."""
        for one in listed.split():
            name, arguments = one.rstrip(")").split("(")
            self.assertEqual(list(inspect.signature(getattr(owner, name)).parameters), arguments.split(","), name)

    def test_functions(self):
        for name, listed in INTERFACE.items():
            self.check(importlib.import_module("momentwright." + name), listed)

    def test_classes(self):
        self.check(Gauge, GAUGE)
        self.check(Desk, "say(self,row)")

    def test_errors(self):
        self.assertEqual(MomentError.__bases__, (ValueError,))
        for name in ERRORS:
            self.assertEqual(getattr(errors, name).__bases__, (MomentError,))
            self.assertEqual(str(getattr(errors, name)("some text")), "some text")


class TestRefusals(unittest.TestCase):
    def refuse(self, refusal, ask, *handed):
        """The question is refused with just this class."""
        with self.assertRaises(refusal) as caught:
            ask(*handed)
        self.assertIs(caught.exception.__class__, refusal)

    def test_two_that_are_due(self):
        # Nought is refused ahead of all else, also where there would be nothing to count.
        self.refuse(NoPolynomial, how_many, [], (1, 1), (0, 1))
        self.refuse(NoPolynomial, signs_at, [], [])
        self.refuse(NoPolynomial, chain, [])
        self.refuse(NoPolynomial, stretches, [], (0, 1))
        self.refuse(NoPolynomial, stretches_hold, [], (1, 1), None)
        self.refuse(NoFraction, ratio, 0, 0)
        self.refuse(NoFraction, over, (0, 1), (0, 1))
        for sums in BARRED:
            self.refuse(NoSums, shows_most, sums, (0, 1), None, None)
            self.refuse(NoSums, flock_at, sums, (0, 1))
            self.refuse(NoSums, led_on, sums, 0)
        desk = Desk()
        self.refuse(NoRow, desk.say, "put -2/2")
        self.refuse(NoSum, desk.say, "put -2")
        for _ in range(11):
            desk.say("put 0")
        self.refuse(NoRow, desk.say, "put 1/1")
        self.refuse(NoSum, desk.say, "put 1")


class TestOneWhole(unittest.TestCase):
    def test_from_a_crowd_around_and_back_to_it(self):
        chance = random.Random(96)
        for spots in range(6):
            drawn = some_crowd(chance, spots, 2)
            sums = sums_of(drawn, 2 * spots + 1)
            flock = flock_of(drawn)
            self.assertEqual(back(sums), ("flock", flock))
            self.assertEqual(sums_by(*turns_of(sums)), sums)
            over_it, under = quotient_of(flock)
            self.assertEqual(flock_by(over_it, under), flock)
            self.assertEqual(first_sums(over_it, under, len(sums)), sums)
            self.assertEqual(back_from(sums, drawn[0][0] if drawn else (0, 1)), ("flock", flock))
            gauge, desk = Gauge(), Desk()
            for number in read_sums(sums_text(sums)):
                gauge.put(number)
                self.assertEqual(desk.say("put " + fraction_text(number)), "ok")
            self.assertEqual(gauge.some_flock(), flock)
            self.assertEqual(read_crowd(desk.say("crowd")), drawn)

    def test_moved_and_grown_all_goes_along(self):
        chance = random.Random(97)
        for turn in range(33):
            sums = flocks_sums(chance, turn % 11 + 1)
            by, spot = some_fraction(chance, 1), some_fraction(chance, 1)
            moved = sums_moved(sums, by)
            turns, rises = turns_of(sums)
            self.assertEqual(turns_of(moved), ([plus(one, by) for one in turns], rises))
            self.assertEqual(is_tight(moved), is_tight(sums))
            self.assertEqual(next_sum(moved)[0], next_sum(sums)[0])
            self.assertEqual(least_square(moved, plus(spot, by))[0], least_square(sums, spot)[0])
            self.assertEqual(back_from(moved, plus(spot, by))[0] == "flock", back_from(sums, spot)[0] == "flock")
            if is_tight(sums):
                self.assertEqual(back(moved)[1], flock_moved(back(sums)[1], by))
            if by != (0, 1):
                grown = sums_grown(sums, by)
                self.assertEqual(least_square(grown, times(spot, by))[0], least_square(sums, spot)[0])
                if is_tight(sums):
                    self.assertEqual(back(grown)[1], flock_grown(back(sums)[1], by))

    def test_what_flocks_have_stays_so_in_all_joins(self):
        chance = random.Random(98)
        for turn in range(30):
            one, other = flocks_sums(chance, chance.randint(1, 9)), flocks_sums(chance, chance.randint(1, 9))
            for sums in (sums_poured(one, other), sums_added(one, other), sums_multiplied(one, other),
                         sums_weighted(one, (2, 7)), sums_weighted(one, (0, 1)), sums_grown(one, (0, 1))):
                self.assertTrue(has_flock(sums))

    def test_told_crowds_handed_in_again(self):
        one, other = crowd((-1, 1), (0, "1/2"), (2, 3)), crowd(("-1/3", 1), (0, 1), (1, 2))
        for ask, of_sums in ((crowd_poured, sums_poured), (crowd_added, sums_added), (crowd_multiplied, sums_multiplied)):
            told = ask(ask(one, other), ask(other, one))
            ones, others = sums_of(one, 6), sums_of(other, 6)
            self.assertEqual(sums_of(told, 6), of_sums(of_sums(ones, others), of_sums(others, ones)))
            self.assertEqual(read_crowd(crowd_text(told)), told)
            self.assertEqual(crowd_moved(crowd_moved(told, (1, 3)), (-1, 3)), told)
            self.assertEqual(crowd_grown(crowd_grown(told, (-1, 3)), (-3, 1)), told)

    def test_lists_changed_while_a_gauge_stands(self):
        sums = poly(2, 0, 2, 0, 2)
        gauge = Gauge()
        for number in sums:
            gauge.put(number)
        sums.clear()
        told = gauge.told()
        told.reverse()
        gauge.some_flock()[0].clear()
        self.assertEqual(gauge.told(), poly(2, 0, 2, 0, 2))
        self.assertEqual(gauge.some_flock(), (poly(-1, 0, 1), poly(1)))


if __name__ == "__main__":
    unittest.main()
