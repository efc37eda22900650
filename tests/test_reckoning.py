"""[B2], [B3] for the meanings that cells get: what terms mean, and how many calls that takes."""

import unittest

from changewise.groups import total_in
from changewise.kinded import Part, kinded
from changewise.kinds import is_data_kind
from changewise.reckoning import Reckoner
from changewise.text import read_term
from tests import oracle
from tests.drawing import Drawer

NUM, UNIT = ("num",), ("unit",)
BAG = ("bag", NUM)
KINDS = {"n": NUM, "b": BAG, "e": ("either", NUM, UNIT), "p": ("pair", NUM, BAG)}
MEANS = {"n": 2, "b": ((1, 2), (2, 5), (7, -1)), "e": ("left", 3), "p": ("pair", 4, ((1, 1),))}


def reckoned(text):
    """The meaning of a text's term, and the calls."""
    reckoner = Reckoner()
    return reckoner.meaning(kinded(KINDS, read_term(text)), MEANS), reckoner.taken


class ReckoningTest(unittest.TestCase):

    def test_calls(self):
        for text, value, calls in (
                ("n", 2, 0), ("n + 1", 3, 0), ("(fn x: num. x)(n)", 2, 1),
                ("(fn x: num. 1)((fn x: num. x)(n))", 1, 2), ("(fn f: num -> num. f(f(n)))(fn x: num. x * x)", 16, 3),
                ("(fn f: num -> num. n)(fn x: num. x * x)", 2, 1),
                ("let x = (fn y: num. y)(n) in x + x", 4, 1), ("let x = (fn y: num. y)(n) in n", 2, 1),
                ("let f = fn y: num. y in f(f(n))", 2, 2),
                ("(fn f: num -> num -> num. f(1)(n))(fn x: num. fn y: num. x + y)", 3, 3),
                ("first(((fn x: num. x)(n), (fn x: num. x)(1)))", 2, 2),
                ("case e {x. (fn y: num. y)(x); u. (fn f: num -> num. f(f(1)))(fn y: num. y)}", 3, 1),
                ("case right(num, ()) {x. (fn y: num. y)(x); u. 5}", 5, 0),
                ("case left((fn x: num. x)(n), unit) {x. x + x; u. 0}", 4, 1), ("total(fn x: num. x, b)", 5, 3),
                ("total(fn x: num. (fn y: num. y + y)(x), b)", 10, 6),
                ("total((fn k: num. fn x: num. x + k)(n), b)", 17, 4),
                ("total(fn x: num. x, zero(bag num))", 0, 0),
                ("total(fn x: num. total(fn y: num. y, one(x)), b)", 5, 6),
                ("total(fn x: num. x, total(fn x: num. one(x), b))", 5, 6), ("total(fn x: num. 0, b + b)", 0, 3),
                ("(fn x: num. 1)(n) * (fn x: num. 2)(n)", 2, 2),
                ("(fn x: num. 1)(n) < (fn x: num. 2)(n)", ("left", ()), 2),
                ("count(one((fn x: num. x)(n)), (fn x: num. x)(2))", 1, 2), ("fn x: num. (fn y: num. y)(x)", None, 0),
                ("let f = fn x: num. (fn y: num. y)(x) in 1", 1, 0),
                ("total(fn x: num. first((x, (fn y: num. y)(x))), one(1) + one(2) + one(1))", 4, 4),
                ("support((fn k: bag num. k)(b))", ((1, 1), (2, 1)), 1)):
            with self.subTest(text):
                found, made = reckoned(text)
                self.assertEqual(made, calls)
                if value is not None:
                    self.assertEqual(repr(found), repr(value))

    def test_drawn_terms(self):
        calls_made = 0
        for seed in range(600):
            drawer = Drawer(seed)
            kind = drawer.data_kind(3)
            term = drawer.term(tuple(KINDS.items()), kind, 6)
            self.assertTrue(is_data_kind(kind))
            calls, reckoner = oracle.Calls(), Reckoner()
            with self.subTest(seed):
                expected = oracle.meaning(KINDS, MEANS, term, calls)
                self.assertEqual(repr(reckoner.meaning(kinded(KINDS, term), MEANS)), repr(expected))
                self.assertEqual(reckoner.taken, calls.made)
                calls_made += calls.made
        self.assertGreater(calls_made, 400)

    def test_one_reckoner_counts_on(self):
        reckoner, term = Reckoner(), kinded(KINDS, read_term("(fn x: num. x)(n)"))
        for made in (1, 2, 3):
            self.assertEqual(reckoner.meaning(term, MEANS), 2)
            self.assertEqual(reckoner.taken, made)

    def test_scopes_are_as_they_were(self):
        held = dict(MEANS)
        reckoned("let n = 5 in (fn b: num. b + n)(n)")
        self.assertEqual(MEANS, held)

    def test_totals(self):
        self.assertEqual(total_in(NUM, []), 0)
        self.assertEqual(total_in(BAG, []), ())
        self.assertEqual(total_in(("pair", BAG, NUM), []), ("pair", (), 0))
        self.assertEqual(total_in(BAG, [((1, 1), (2, 2)), ((0, 1),), ((2, -2), (1, 1))]), ((0, 1), (1, 2)))
        self.assertEqual(total_in(("pair", BAG, NUM), [("pair", ((1, 1),), 1), ("pair", ((1, -1),), 5)]),
                ("pair", (), 6))

    def test_no_deep_calls_are_needed(self):
        # No term is so deep, but calls of functions that call others may be.
        x, one = Part(("name", "x"), NUM, {"x": True}, ()), Part(("number", 1), NUM, {}, ())
        inner = x
        for _ in range(5000):
            let = Part(("let", "x", x.term, inner.term), NUM, {"x": True}, (x, inner))
            inner = Part(("plus", let.term, one.term), NUM, {"x": True}, (let, one))
        self.assertEqual(Reckoner().meaning(inner, {"x": 2}), 5002)


if __name__ == "__main__":
    unittest.main()
