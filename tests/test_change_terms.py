"""[C8], [C9]: closed terms that lead values of any kind, tell differences and still changes; functions and their changes."""

import unittest

from changewise.changes import change_kind, led, led_term, less, less_term, nothing, nothing_term
from changewise.kinding import kind_of
from changewise.kinds import depth_of_kind, is_data_kind
from changewise.meaning import applied
from changewise.terms import depth_of, free_names, is_term, parts_of
from changewise.text import read_kind, read_term
from tests import oracle
from tests.cases import Case, nested
from tests.drawing import Drawer
from tests.sampling import Sampler

NUM, UNIT = ("num",), ("unit",)
STEP, SIDES = ("fun", NUM, NUM), ("either", NUM, UNIT)
HANDED = ("fun", STEP, NUM)
KINDS = [read_kind(text) for text in (
    "unit", "num", "bag num", "bag (num | unit)", "(num, bag num)", "(num, unit)", "num | unit", "unit | (num | num)",
    "num -> num", "num -> bag num", "unit -> num | unit", "num | unit -> num", "(num, num) -> num -> num",
    "(num -> num) -> num", "((num -> num) -> num) -> num", "(num -> num) -> num -> num", "(num -> num, num)",
    "(num -> num) | unit", "(num -> num) | (num -> unit)", "(num | unit, (num -> num) -> num)", "bag num -> bag num",
    "((num -> num) | unit) -> num", "num -> ((num -> num) | num)", "(num -> num, num -> num) -> (num, num)",
)]


def meant(term):
    """What a closed term means, by the second interpreter."""
    return oracle.meaning({}, {}, term, oracle.Calls())


def drawn_kinds(many):
    found = []
    for seed in range(many):
        drawer = Drawer(seed)
        found.append(drawer.kind(drawer.one_of(2, 3, 3, 4), ("unit", "num", "num", "pair", "either", "bag", "fun", "fun")))
    return found


class FormTest(Case):

    def check(self, kind):
        changes = change_kind(kind)
        for term, told in ((led_term(kind), ("fun", kind, ("fun", changes, kind))),
                           (less_term(kind), ("fun", kind, ("fun", kind, changes))),
                           (nothing_term(kind), ("fun", kind, changes))):
            with self.subTest(kind):
                self.assertIs(is_term(term), True)
                self.assertEqual(free_names(term), ())
                self.assertEqual(kind_of((), term), told)

    def test_they_are_closed_terms_of_the_kinds_told(self):
        for kind in KINDS + drawn_kinds(200):
            self.check(kind)

    def test_of_kinds_six_deep(self):
        seen = 0
        for seed in range(300):
            kind = Drawer(seed).kind(6)
            self.check(kind)
            seen += depth_of_kind(kind) == 6
        self.assertGreater(seen, 10)
        for word in ("pair", "either", "fun"):
            for kind in (nested(6, (word,), UNIT, (UNIT,)), nested(6, (word, UNIT), UNIT, ()),
                         nested(6, (word,), NUM, (NUM,)), nested(6, (word, STEP), NUM, ())):
                self.check(kind)

    def test_full_kinds_six_deep(self):
        for words in (("either",) * 5, ("fun",) * 5, ("pair",) * 5, ("either", "fun") * 3, ("fun", "either", "pair") * 2):
            kind = NUM
            for word in words[:5]:
                kind = (word, kind, kind)
            self.check(kind)
            for made in (led_term, less_term, nothing_term):
                self.assertLess(depth_of(made(kind)), 60)
                self.assertLess(parts_of(made(kind)), 5000)

    def test_by_name(self):
        self.assertEqual((led_term(kind=NUM), less_term(kind=NUM), nothing_term(kind=NUM)),
                         (led_term(NUM), less_term(NUM), nothing_term(NUM)))


class MeaningTest(Case):

    def test_of_data_they_mean_what_is_told(self):
        for seed in range(800):
            drawer = Drawer(seed)
            kind = drawer.data_kind(drawer.one_of(2, 3, 4, 5))
            value, other = drawer.value(kind), drawer.value(kind)
            fitting, odd = drawer.fitting(kind, value), drawer.value(change_kind(kind))
            with self.subTest(seed):
                for change in (fitting, odd):
                    self.assert_same(applied(led_term(kind), (value, change)), led(kind, value, change))
                self.assert_same(applied(less_term(kind), (other, value)), less(kind, other, value))
                self.assert_same(applied(nothing_term(kind), (value,)), nothing(kind, value))

    def test_of_any_kind_they_mean_what_is_told(self):
        """Of functions: f led by df at a; g less f at a and da; the still change is f less f."""
        for at, kind in enumerate(KINDS * 3 + drawn_kinds(250)):
            sampler = Sampler(Drawer(at))
            value, other = sampler.value(kind), sampler.value(kind)
            change, changes = sampler.fitting(kind, value), change_kind(kind)
            with self.subTest(kind):
                told = meant(led_term(kind))(value)(change)
                self.assertTrue(sampler.alike(kind, told, oracle.led(kind, value, change)))
                told = meant(less_term(kind))(other)(value)
                self.assertTrue(sampler.alike(changes, told, oracle.less(kind, other, value)))
                told = meant(nothing_term(kind))(value)
                self.assertTrue(sampler.alike(changes, told, oracle.still(kind, value)))

    def test_functions_by_hand(self):
        one, two = read_term("fn x: num. x + x"), read_term("fn x: num. x * x")
        to_two = ("call", ("call", less_term(STEP), two), one)
        self.assert_same(applied(("call", ("call", led_term(STEP), one), to_two), (5,)), 25)
        self.assert_same([applied(to_two, (5, moved)) for moved in (1, 0, -5)], [26, 15, -10])
        self.assert_same([applied(("call", nothing_term(STEP), two), (5, moved)) for moved in (1, 0, -5)], [11, 0, -25])

    def test_functions_of_functions_by_hand(self):
        # At x + 1, changed to x * x: f(f(2)) is 4, then 16; the difference is told by the change of the function.
        twice, once = read_term("fn f: num -> num. f(f(2))"), read_term("fn f: num -> num. f(2)")
        inner, moved = read_term("fn x: num. x + 1"), read_term("fn x: num. x * x")
        change = ("call", ("call", less_term(STEP), moved), inner)
        still = ("call", nothing_term(HANDED), twice)
        self.assert_same(applied(("call", ("call", still, inner), change), ()), 12)
        to_once = ("call", ("call", less_term(HANDED), once), twice)
        self.assert_same(applied(("call", ("call", to_once, inner), change), ()), 0)
        self.assert_same(applied(("call", ("call", to_once, inner), ("call", nothing_term(STEP), inner)), ()), -1)
        led_twice = ("call", ("call", led_term(HANDED), twice), to_once)
        self.assert_same(applied(("call", led_twice, moved), ()), 4)

    def test_sides_of_functions_by_hand(self):
        kind = ("either", STEP, NUM)
        value, other = read_term("left(fn x: num. x + 1, num)"), read_term("right(num -> num, 7)")
        seen = read_term("fn s: (num -> num) | num. case s {f. f(10); n. n}")
        moved = ("call", ("call", less_term(kind), other), value)
        self.assert_same(applied(("call", seen, ("call", ("call", led_term(kind), value), moved)), ()), 7)
        still = ("call", nothing_term(kind), value)
        self.assert_same(applied(("call", seen, ("call", ("call", led_term(kind), value), still)), ()), 11)
        # A change on the left side leaves what is on the right.
        self.assert_same(applied(("call", seen, ("call", ("call", led_term(kind), other), still)), ()), 7)


class LawsTest(Case):
    """[C4] and [C9] for all kinds, with "alike" in the place of "the same"."""

    def rows(self):
        for at, kind in enumerate(KINDS * 4 + drawn_kinds(300)):
            sampler = Sampler(Drawer(at))
            yield kind, sampler, sampler.value(kind)

    def terms(self, kind):
        return meant(led_term(kind)), meant(less_term(kind)), meant(nothing_term(kind))

    def test_differences_fit_and_lead(self):
        for kind, sampler, value in self.rows():
            leading, difference, _ = self.terms(kind)
            other = sampler.value(kind)
            change = difference(other)(value)
            with self.subTest(kind):
                self.assertTrue(sampler.fits(kind, value, change))
                self.assertTrue(sampler.alike(kind, leading(value)(change), other))

    def test_still_changes_fit_and_leave(self):
        for kind, sampler, value in self.rows():
            leading, _, stillness = self.terms(kind)
            still = stillness(value)
            with self.subTest(kind):
                self.assertTrue(sampler.fits(kind, value, still))
                self.assertTrue(sampler.alike(kind, leading(value)(still), value))

    def test_the_answer_led_is_the_led_functions_at_the_argument_led(self):
        for kind, sampler, function in self.rows():
            if kind[0] == "fun":
                leading, _, _ = self.terms(kind)
                change = sampler.fitting(kind, function)
                argument = sampler.value(kind[1])
                moved = sampler.fitting(kind[1], argument)
                answer = meant(led_term(kind[2]))(function(argument))(change(argument)(moved))
                behind = leading(function)(change)(meant(led_term(kind[1]))(argument)(moved))
                with self.subTest(kind):
                    self.assertTrue(sampler.fits(kind[2], function(argument), change(argument)(moved)))
                    self.assertTrue(sampler.alike(kind[2], answer, behind))

    def test_alike_changes_at_alike_values(self):
        for kind, sampler, value in self.rows():
            leading, difference, stillness = self.terms(kind)
            change = sampler.fitting(kind, value)
            # The same value, led there by a still change, and the same change, told as a difference.
            other = leading(value)(stillness(value))
            settled = difference(leading(value)(change))(value)
            with self.subTest(kind):
                self.assertTrue(sampler.alike(kind, leading(value)(change), leading(other)(settled)))
                self.assertTrue(sampler.fits(kind, other, settled))

    def test_some_kinds_are_of_functions(self):
        self.assertGreater(len([kind for kind, _, _ in self.rows() if not is_data_kind(kind)]), 150)


if __name__ == "__main__":
    unittest.main()
