"""[C1] to [C7] for the changes that edits tell, and [C8], [C9] for the terms that derivatives take from them."""

import unittest

from changewise.changeterms import difference_term, leading_term, led_by, less_by, still_at, stillness_term
from changewise.groups import plus_in, times_in
from changewise.kinded import kind_in, kinded
from changewise.kinds import depth_of_kind, is_group_kind, is_kind
from changewise.leading import back_in, fits_in, joined_in, kind_of_changes, led_in, less_in
from changewise.reckoning import Reckoner
from changewise.terms import depth_of, free_names, is_term
from changewise.text import read_kind, read_term, show_kind
from changewise.values import is_value
from tests import oracle
from tests.cases import nested
from tests.drawing import Drawer

NUM, UNIT = ("num",), ("unit",)


def drawn(seed, many=1):
    """A data kind, a value of it and some changes, each of which fits what those ahead of it lead to."""
    drawer = Drawer(seed)
    kind = drawer.data_kind(4)
    value = drawer.value(kind)
    changes, now = [], value
    for _ in range(many):
        changes.append(drawer.fitting(kind, now))
        now = oracle.led(kind, now, changes[-1])
    return kind, value, changes


class ChangesTest(unittest.TestCase):

    def test_kinds_of_changes(self):
        for text, changes in (
                ("unit", "unit"), ("num", "num"), ("bag (num | unit)", "bag (num | unit)"),
                ("(num, unit)", "(num, unit)"), ("num | unit", "num | unit | (num | unit)"),
                ("num -> bag num", "num -> num -> bag num"),
                ("(num | unit) -> num", "num | unit -> num | unit | (num | unit) -> num"),
                ("(num, num | num)", "(num, num | num | (num | num))"),
                ("(num -> num) -> unit", "(num -> num) -> (num -> num -> num) -> unit")):
            self.assertEqual(show_kind(kind_of_changes(read_kind(text))), changes)

    def test_kinds_of_drawn_changes(self):
        for seed in range(200):
            kind = Drawer(seed).kind(5)
            changes = kind_of_changes(kind)
            self.assertTrue(is_kind(changes))
            self.assertLessEqual(depth_of_kind(changes), 2 * depth_of_kind(kind) - 1)
            if is_group_kind(kind):
                self.assertEqual(changes, kind)

    def test_leading_and_differences(self):
        for seed in range(500):
            kind, value, (one, two) = drawn(seed, 2)
            other = Drawer(seed + 1000).value(kind)
            for change in (one, two):
                self.assertTrue(is_value(kind_of_changes(kind), change))
            self.assertIs(fits_in(kind, value, one), True)
            self.assertEqual(led_in(kind, value, one), oracle.led(kind, value, one))
            self.assertEqual(less_in(kind, other, value), oracle.less(kind, other, value))
            self.assertIs(fits_in(kind, value, less_in(kind, other, value)), True)
            self.assertEqual(led_in(kind, value, less_in(kind, other, value)), other)
            self.assertEqual(led_in(kind, value, less_in(kind, value, value)), value)

    def test_joined_and_back(self):
        for seed in range(500):
            kind, value, (one, two, three) = drawn(seed, 3)
            behind = led_in(kind, value, one)
            both = joined_in(kind, value, one, two)
            self.assertIs(fits_in(kind, value, both), True)
            self.assertEqual(led_in(kind, value, both), led_in(kind, behind, two))
            self.assertEqual(joined_in(kind, value, both, three),
                    joined_in(kind, value, one, joined_in(kind, behind, two, three)))
            self.assertEqual(joined_in(kind, value, less_in(kind, value, value), one), one)
            self.assertEqual(joined_in(kind, value, one, less_in(kind, behind, behind)), one)
            back = back_in(kind, value, one)
            self.assertIs(fits_in(kind, behind, back), True)
            self.assertEqual(led_in(kind, behind, back), value)

    def test_changes_that_do_not_fit_leave_the_value(self):
        kind = ("either", NUM, ("either", UNIT, NUM))
        for value, change, fits, led in (
                (("left", 3), ("left", ("left", 4)), True, ("left", 7)),
                (("left", 3), ("left", ("right", ("left", ("left", ())))), False, ("left", 3)),
                (("right", ("left", ())), ("left", ("left", 4)), False, ("right", ("left", ()))),
                (("right", ("left", ())), ("left", ("right", ("left", ("right", 4)))), False,
                    ("right", ("left", ()))),
                    (("right", ("right", 1)), ("left", ("right", ("left", ("right", 4)))), True,
                        ("right", ("right", 5))),
                (("right", ("right", 1)), ("left", ("right", ("right", ("left", ())))), True,
                    ("right", ("left", ()))), (("left", 3), ("right", ("left", 3)), True, ("left", 3))):
            self.assertIs(fits_in(kind, value, change), fits)
            self.assertEqual(led_in(kind, value, change), led)

    def test_of_group_kinds_changes_are_values(self):
        for seed in range(200):
            drawer = Drawer(seed)
            kind = drawer.group_kind(3)
            value, change = drawer.value(kind), drawer.value(kind)
            self.assertIs(fits_in(kind, value, change), True)
            self.assertEqual(led_in(kind, value, change), plus_in(kind, value, change))
            self.assertEqual(less_in(kind, change, value), plus_in(kind, change, times_in(kind, -1, value)))
            self.assertEqual(joined_in(kind, value, change, value), plus_in(kind, change, value))


class ChangeTermsTest(unittest.TestCase):

    def applied(self, term, *values):
        """The meaning of a closed term called with values of its kinds."""
        kind, scope, kinds = kind_in({}, term), {}, {}
        for at, value in enumerate(values):
            name = f"v{at}"
            scope[name], kinds[name] = value, kind[1]
            term, kind = ("call", term, ("name", name)), kind[2]
        return Reckoner().meaning(kinded(kinds, term), scope)

    def test_they_are_closed_terms_of_the_kinds_told(self):
        for seed in range(200):
            kind = Drawer(seed).kind(5)
            changes = kind_of_changes(kind)
            for term, told in ((leading_term(kind), ("fun", kind, ("fun", changes, kind))),
                    (difference_term(kind), ("fun", kind, ("fun", kind, changes))),
                    (stillness_term(kind), ("fun", kind, changes))):
                with self.subTest(kind):
                    self.assertIs(is_term(term), True)
                    self.assertEqual(free_names(term), ())
                    self.assertEqual(kind_in({}, term), told)

    def test_of_kinds_six_deep_they_are_terms(self):
        for word in ("pair", "either", "fun"):
            for kind in (nested(6, (word,), UNIT, (UNIT,)), nested(6, (word, UNIT), UNIT, ()),
                    nested(6, (word,), NUM, (NUM,))):
                for made in (leading_term, difference_term, stillness_term):
                    self.assertIs(is_term(made(kind)), True)
                    self.assertLess(depth_of(made(kind)), 60)

    def test_of_data_they_mean_what_is_told(self):
        for seed in range(400):
            kind, value, (change,) = drawn(seed)
            other = Drawer(seed + 1000).value(kind)
            with self.subTest(seed):
                self.assertEqual(self.applied(leading_term(kind), value, change), led_in(kind, value, change))
                self.assertEqual(self.applied(difference_term(kind), other, value), less_in(kind, other, value))
                self.assertEqual(self.applied(stillness_term(kind), value), less_in(kind, value, value))

    def test_what_does_not_fit(self):
        kind = ("either", NUM, ("pair", NUM, ("either", UNIT, NUM)))
        for value, change in ((("left", 3), ("left", ("right", ("pair", 1, ("left", ("left", ())))))),
                (("right", ("pair", 1, ("left", ()))), ("left", ("left", 4))),
                              (("right", ("pair", 1, ("left", ()))),
                                  ("left", ("right", ("pair", 1, ("left", ("right", 4))))))):
            self.assertEqual(self.applied(leading_term(kind), value, change), led_in(kind, value, change))

    def test_of_functions(self):
        step = ("fun", NUM, NUM)
        one, two = read_term("fn x: num. x + x"), read_term("fn x: num. x * x")
        to_two = ("call", ("call", difference_term(step), two), one)
        self.assertEqual(self.applied(("call", ("call", leading_term(step), one), to_two), 5), 25)
        self.assertEqual(self.applied(to_two, 5, 1), 26)
        self.assertEqual(self.applied(("call", stillness_term(step), two), 5, 1), 11)

    def test_of_functions_within_other_kinds(self):
        # From one value to another one of the kind, led by the difference; seen by calling what is within.
        for kind, one, two, seen in (
                ("(num -> num, num)", "(fn x: num. x, 1)", "(fn x: num. x * x, 2)", "first(v)(3) + second(v)"),
                ("num -> num -> num", "fn x: num. fn y: num. x", "fn x: num. fn y: num. x * y", "v(3)(5)"),
                ("num -> (num | unit)", "fn x: num. left(x, unit)",
                    "fn x: num. case x < 3 {u. left(x * x, unit); u. right(num, ())}", "(v(2), v(4))"),
                    ("(num -> num) | unit", "left(fn x: num. x, unit)", "left(fn x: num. 7 * x, unit)",
                        "case v {f. f(3); u. 0}"),
                ("(num -> num) | unit", "right(num -> num, ())", "left(fn x: num. 7 * x, unit)",
                    "case v {f. f(3); u. 0}"),
                    ("(num -> num) -> num", "fn f: num -> num. f(1)", "fn f: num -> num. f(f(2))",
                        "v(fn x: num. x + 5)"),
                ("(num | unit) -> num", "fn e: num | unit. case e {x. x; u. 1}",
                    "fn e: num | unit. case e {x. x * x; u. 9}", "(v(left(4, unit)), v(right(num, ())))"),
                    ("unit -> bag num", "fn u: unit. one(1)", "fn u: unit. one(2) + one(1)", "v(())")):
            told = read_kind(kind)
            less = ("call", ("call", difference_term(told), read_term(two)), read_term(one))
            led = ("call", ("call", leading_term(told), read_term(one)), less)
            still = ("call", ("call", leading_term(told), read_term(one)),
                    ("call", stillness_term(told), read_term(one)))
            for term, same in ((led, two), (still, one)):
                with self.subTest(kind):
                    self.assertEqual(self.applied(("let", "v", term, read_term(seen))),
                            self.applied(("let", "v", read_term(same), read_term(seen))))

    def test_terms_put_together(self):
        for kind in (NUM, ("bag", NUM), ("pair", NUM, NUM), ("either", NUM, UNIT), UNIT, ("fun", NUM, NUM),
                ("pair", UNIT, ("fun", NUM, UNIT))):
            changes = kind_of_changes(kind)
            kinds = {"v": kind, "w": kind, "c": changes}
            self.assertEqual(kind_in(kinds, led_by(kind, ("name", "v"), ("name", "c"))), kind)
            self.assertEqual(kind_in(kinds, less_by(kind, ("name", "v"), ("name", "w"))), changes)
            self.assertEqual(kind_in(kinds, still_at(kind, ("name", "v"))), changes)


if __name__ == "__main__":
    unittest.main()
