"""[B1] for the kinds that cells get: kinds of terms, and where a term that has none is wrong first."""

import unittest

from changewise.errors import WrongTerm
from changewise.kinded import kind_in, kinded
from changewise.terms import part_at
from changewise.text import read_kind, read_term
from tests import oracle
from tests.drawing import Drawer

CONTEXT = {"n": "num", "u": "unit", "b": "bag num", "c": "bag unit", "p": "(num, unit)", "g": "(num, bag num)",
        "e": "num | unit", "f": "num -> num",
           "h": "(num -> num) -> unit", "k": "num -> unit", "m": "bag num -> num", "q": "(unit, num)",
           "o": "unit -> bag num", "x'": "num"}
KINDS = {name: read_kind(text) for name, text in CONTEXT.items()}

WRONG = (
    ("z", ()), ("n'", ()), ("fn x: num. z", (3,)), ("fn x: num. x(x)", (3, 1)), ("n(n)", (1,)), ("f(u)", (2,)),
    ("f(z)", (2,)), ("z(z)", (1,)), ("n(z)", (2,)), ("h(f)(n)", (1,)), ("f(n)(n)", (1,)), ("h(k)", (2,)),
    ("let x = z in y", (2,)), ("let x = n in y", (3,)), ("let x = n in x(n)", (3, 1)), ("let x = x in x", (2,)),
    ("u + u", (1,)), ("u + n", (1,)), ("n + u", (2,)), ("n + b", (2,)), ("b + c", (2,)), ("p + p", (1,)),
    ("g + g + n", (2,)),
    ("f + f", (1,)), ("e + e", (1,)), ("z + z", (1,)), ("u + z", (2,)), ("-u", (1,)), ("-f", (1,)), ("-p", (1,)),
    ("-z", (1,)), ("b * n", (1,)), ("n * b", (2,)), ("b * b", (1,)), ("b * z", (2,)), ("(n, z)", (2,)),
    ("(z, z)", (1,)),
    ("first(n)", (1,)), ("second(e)", (1,)), ("first(z)", (1,)), ("left(z, num)", (1,)), ("right(num, z)", (2,)),
    ("case n {x. z; y. z}", (1,)), ("case p {x. 1; y. 2}", (1,)), ("case z {x. z; y. z}", (1,)),
    ("case e {x. z; y. z}", (3,)),
    ("case e {x. x; y. z}", (5,)), ("case e {x. x; y. y}", (5,)), ("case e {x. y; y. y}", (3,)),
    ("case e {x. x; y. x}", (5,)), ("case e {n. n; n. n}", (5,)), ("case e {x. 1; y. case n {x. 1; y. 2}}", (5, 1)),
    ("u < n", (2,)), ("n < u", (3,)), ("u == u", (2,)),
    ("u <= z", (3,)), ("z < u", (2,)), ("one(b)", (1,)), ("one(f)", (1,)), ("one(g)", (1,)), ("one(z)", (1,)),
    ("total(n, b)", (1,)), ("total(f, n)", (2,)), ("total(f, c)", (2,)), ("total(k, b)", (1,)), ("total(h, b)", (1,)),
    ("total(m, b)", (1,)),
    ("total(n, n)", (1,)), ("total(k, z)", (2,)), ("total(z, z)", (1,)), ("total(o, b)", (2,)), ("count(n, n)", (1,)),
    ("count(b, u)", (2,)), ("count(n, u)", (1,)), ("count(n, z)", (2,)), ("count(c, n)", (2,)), ("support(n)", (1,)),
    ("support(z)", (1,)),
    ("n + (n + u)", (2, 2)), ("(u + n) + z", (1, 1)), ("fn n: unit. n + n", (3, 1)), ("(fn x: unit. x)(n)", (2,)),
    ("let f = n in f(n)", (3, 1)),
)


class KindedTest(unittest.TestCase):

    def test_where_a_term_is_wrong_first(self):
        for text, place in WRONG:
            with self.subTest(text):
                with self.assertRaises(WrongTerm) as caught:
                    kind_in(KINDS, read_term(text))
                self.assertEqual(caught.exception.place, place)

    def test_the_place_leads_from_the_whole_term(self):
        for text, place in WRONG:
            inner = ("pair", ("name", "n"), ("minus", read_term(text)))
            with self.subTest(text):
                with self.assertRaises(WrongTerm) as caught:
                    kind_in(KINDS, inner)
                self.assertEqual(caught.exception.place, (2, 1) + place)

    def test_the_oracle_tells_the_same(self):
        for text, place in WRONG:
            with self.assertRaises(oracle.NoKind) as caught:
                oracle.kind_of(KINDS, read_term(text))
            self.assertEqual(caught.exception.args[0], place)

    def test_drawn_terms_of_a_kind(self):
        context = tuple((name, kind) for name, kind in KINDS.items() if "'" not in name)
        for seed in range(500):
            drawer = Drawer(seed)
            kind = drawer.kind(3)
            term = drawer.term(context, kind, 5)
            with self.subTest(seed):
                self.assertEqual(kind_in(KINDS, term), kind)

    def test_drawn_terms_with_a_part_put_in(self):
        context = tuple((name, kind) for name, kind in KINDS.items() if "'" not in name)
        wrong = 0
        for seed in range(500):
            drawer = Drawer(seed)
            term = self.broken(drawer, drawer.term(context, drawer.kind(3), 5),
                    drawer.term(context, drawer.kind(2), 2))
            with self.subTest(seed):
                self.assertEqual(self.told(kind_in, WrongTerm, term), self.told(oracle.kind_of, oracle.NoKind, term))
                wrong += self.told(kind_in, WrongTerm, term)[0] == "wrong"
        self.assertGreater(wrong, 100)

    def told(self, ask, error, term):
        try:
            return "kind", ask(KINDS, term)
        except error as caught:
            return "wrong", caught.place if error is WrongTerm else caught.args[0]

    def broken(self, drawer, term, other):
        """The term with another one in the place of one of its parts."""
        places = [index for index, part in enumerate(term) if index and isinstance(part,
                tuple) and term[0] not in ("zero",)
                  and not (index == 2 and term[0] in ("fn", "left")) and not (index == 1 and term[0] == "right")]
        if not places or drawer.chance(25):
            return other
        at = drawer.one_of(*places)
        return term[:at] + (self.broken(drawer, term[at], other),) + term[at + 1:]

    def test_each_part_gets_its_kind(self):
        num, unit = ("num",), ("unit",)
        part = kinded({"n": num}, read_term("case left(n, unit) {x. x; y. 1}"))
        told, left, right = part.parts
        self.assertEqual([each.kind for each in (part, told, *told.parts, left, right)],
                         [num, ("either", num, unit), num, num, num])

    def test_each_part_is_told_with_its_names(self):
        context = tuple((name, kind) for name, kind in KINDS.items() if "'" not in name)
        for seed in range(200):
            drawer = Drawer(seed)
            todo = [(kinded(dict(context), drawer.term(context, drawer.kind(3), 5)), ())]
            while todo:
                part, path = todo.pop()
                self.assertEqual(set(part.names), oracle.names_in(part.term))
                places = [index for index in range(1, len(part.term)) if part_at(part.term, (index,)) is not None]
                self.assertEqual([each.term for each in part.parts], [part.term[index] for index in places])
                todo += [(each, path) for each in part.parts]

    def test_the_context_is_as_it_was(self):
        context = {"n": ("num",)}
        kind_in(context, read_term("fn x: unit. let n = x in (n, x)"))
        self.assertEqual(context, {"n": ("num",)})


if __name__ == "__main__":
    unittest.main()
