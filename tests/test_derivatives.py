"""[D1] for the derivatives that keepers reckon by: they have the kind told, fit, and lead."""

import unittest

from changewise.derivatives import derivative_of
from changewise.kinded import kind_in, kinded
from changewise.kinds import is_data_kind
from changewise.leading import fits_in, kind_of_changes
from changewise.reckoning import Reckoner
from changewise.shapes import free_in
from changewise.terms import is_term
from changewise.text import read_term
from changewise.values import is_value
from tests import oracle
from tests.drawing import Drawer

NUM, UNIT = ("num",), ("unit",)
KINDS = {"n": NUM, "m": NUM, "b": ("bag", NUM), "e": ("either", NUM, UNIT),
        "p": ("pair", ("either", UNIT, UNIT), ("bag", ("either", NUM, UNIT))), "u": UNIT}


def derivative_in(kinds, changing, term):
    return derivative_of(kinded(kinds, term), {name: kinds[name] for name in changing})


class DerivativesTest(unittest.TestCase):

    def check(self, drawer, term, changing):
        kind = kind_in(KINDS, term)
        derivative = derivative_in(KINDS, changing, term)
        kinds = {**KINDS, **{name + "'": kind_of_changes(KINDS[name]) for name in changing}}
        self.assertIs(is_term(derivative), True)
        self.assertEqual(kind_in(kinds, derivative), kind_of_changes(kind))
        self.assertEqual(derivative_in(KINDS, changing, term), derivative)
        allowed = list(free_in(term)) + [name + "'" for name in changing if name in free_in(term)]
        self.assertEqual([name for name in free_in(derivative) if name not in allowed], [])
        if is_data_kind(kind):
            for _ in range(3):
                self.check_leads(drawer, term, (kind, kinds, derivative), changing)

    def check_leads(self, drawer, term, told, changing):
        kind, kinds, derivative = told
        means = {name: drawer.value(KINDS[name]) for name in KINDS}
        changes = {name: drawer.fitting(KINDS[name], means[name]) for name in changing}
        behind = {name: oracle.led(KINDS[name], means[name],
                changes[name]) if name in changes else means[name] for name in KINDS}
        marked = {name + "'": changes[name] for name in changes}
        change = Reckoner().meaning(kinded(kinds, derivative), {**means, **marked})
        was, now = [oracle.meaning(KINDS, these, term, oracle.Calls()) for these in (means, behind)]
        self.assertIs(is_value(kind_of_changes(kind), change), True)
        self.assertIs(fits_in(kind, was, change), True)
        self.assertEqual(oracle.led(kind, was, change), now)

    def test_drawn_terms(self):
        for seed in range(700):
            drawer = Drawer(seed)
            term = drawer.term(tuple(KINDS.items()), drawer.kind(3), drawer.one_of(3, 4, 5))
            changing = tuple(name for name in KINDS if drawer.chance(50))
            with self.subTest(seed):
                self.check(drawer, term, changing)

    def test_terms_that_name_what_changes_again_and_again(self):
        for at, text in enumerate((
                "n * n * n", "n * (m * n) * -n", "case e {x. case e {y. x * y * n; v. x}; v. n * n}",
                "case e {n. n * n; v. n}", "let n = n * n in n * n",
                "let x = n in let n = x + m in let x = n * x in x",
                "total(fn x: num. x * n * total(fn y: num. y * x + n, b), b)", "total(fn n: num. n * n, b + one(n))",
                "(fn f: num -> num. f(f(n)))(fn x: num. x * n + m)", "(fn n: num. fn m: num. n * m)(m)(n)",
                "count(b + one(n), m) * count(b, n)", "support(b + one(n) + -one(m))", "(n < m, n == m)",
                "case n < m {v. one(n); v. b}", "case first(p) {v. second(p); w. one(e)}",
                "total(fn x: num | unit. case x {y. y * n; v. m}, second(p))",
                "let f = fn x: num. x * n in let g = fn y: num. f(f(y)) in g(g(m))",
                "(fn k: (num -> num) -> num. k(fn x: num. x + n))(fn f: num -> num. f(n) * f(m))",
                "let z1 = n in let z2 = m in z1 * z2 * n", "total(fn z1: num. z1 * n, one(n) + b)",
                "case e {z1. case e {z2. z1 * z2; z3. z1}; z1. n}",
                "case left(fn x: num. x * n, unit) {f. f(m); v. 0}", "first((fn x: num. x * n, m))(m)",
                "let e = left(n, unit) in case e {x. x * n; v. m}")):
            drawer = Drawer(at)
            term = read_term(text)
            for changing in (("n",), ("m",), ("n", "m"), ("b",), ("e",), ("n", "e"), ("n", "m", "b", "e", "p"), ()):
                with self.subTest(text, changing=changing):
                    self.check(drawer, term, changing)

    def test_names_bound_in_the_derivative_hide_none(self):
        # z1, z2 and so on are what the derivative would call its own names.
        kinds = {f"z{at}": NUM for at in range(1, 6)}
        term = read_term("z1 * z2 * z3 * z4 * z5")
        derivative = derivative_in(kinds, ("z1", "z3", "z5"), term)
        means, changes = {f"z{at}": at for at in range(1, 6)}, {"z1'": 1, "z3'": 2, "z5'": -3}
        kinds = {**kinds, "z1'": NUM, "z3'": NUM, "z5'": NUM}
        self.assertEqual(Reckoner().meaning(kinded(kinds, derivative), {**means, **changes}), 2 * 2 * 5 * 4 * 2 - 120)

    def test_where_nothing_may_change_the_change_is_still(self):
        for text in ("n * n", "e", "b", "(n, e)", "fn x: num. x * n"):
            term = read_term(text)
            derivative = derivative_in(KINDS, (), term)
            self.assertEqual(kind_in(KINDS, derivative), kind_of_changes(kind_in(KINDS, term)))

    def test_products_grow_by_little(self):
        term = ("name", "n")
        for _ in range(11):
            term = ("times", term, ("name", "n"))
        derivative = derivative_in(KINDS, ("n",), term)
        self.assertLess(len(repr(derivative)), 40 * len(repr(term)))
        self.check(Drawer(1), term, ("n",))


if __name__ == "__main__":
    unittest.main()
