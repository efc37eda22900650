"""[D4]: which terms are steady, and which functions from bags add up."""

import unittest

from changewise.changeterms import stillness_term
from changewise.deriving import adds, derivative, is_steady, kept_change
from changewise.errors import (
    InvalidChanging, InvalidContext, InvalidTerm, InvalidValues, NotData, WrongTerm,
)
from changewise.kinding import kind_of
from changewise.meaning import applied
from changewise.terms import is_written
from changewise.text import read_kind, read_term
from tests import oracle
from tests.asking import AskingCase, indexed, odd_elements, wrong_changing, wrong_contexts, wrong_written
from tests.drawing import Drawer

NUM, UNIT = ("num",), ("unit",)
BAG, STEP, SIDES = ("bag", NUM), ("fun", NUM, NUM), ("either", NUM, UNIT)
CONTEXT = (("b", BAG), ("e", SIDES), ("f", STEP), ("g", ("pair", NUM, BAG)), ("n", NUM), ("m", NUM), ("u", UNIT),
           ("p", ("pair", NUM, UNIT)), ("x'", NUM))
CHANGING = ("b", "g", "n")

STEADY = (
    "n", "b", "g", "n + n", "n + m", "m + 1", "-n", "-(b + b)", "(n, b)", "(n, u)", "(e, n)", "first(g)",
    "second((e, b))", "first((n, u))", "n * m", "m * n", "2 * n", "n * (m * m)", "(m + 1) * (n + -n)", "m * m", "m * (2 * n)",
    "total(fn x: num. x * m, b)", "total(f, b)", "total(fn x: num. x * x, b + b)", "total(fn n: num. n * n, b)",
    "total(fn x: num. (x, one(x)), second(g))", "total(f, total(fn x: num. one(x + m), b))",
    "let x = n in x + x", "let x = m in x * n", "let x = n in x * m", "let x = (n, b) in first(x)", "let x = e in n",
    "let n = m in n * n", "let n = n in n + n", "let x = g in let y = first(x) in y + n", "let x = b in total(f, x)",
    "let n = n in m", "let x = (n, u) in n", "let x = f in x(m) + n",
    "fn x: num. x", "e", "case e {x. x; v. m}", "count(one(m), m)", "let b = m in fn x: num. b", "first(p) * n",
    "let n = u in (n, b)", "f(m) * n", "-(case e {x. x; v. 1}) + n", "let x = n + m in (fn y: num. y)(m) + x",
    "()", "3", "zero(bag num)", "(fn n: num. n * n)(m) * first(g)", "case e {n. n * n; v. m}",
)
NOT_STEADY = (
    "n * n", "n * (n * m)", "n * first(g)", "(m * n) * n", "fn x: num. n", "(fn x: num. x + n)(1)", "f(n)",
    "(fn x: num. x)(n)", "left(n, unit)", "right(unit, n)", "case e {x. n; v. 0}", "case e {x. x; v. n}",
    "case left(n, unit) {x. 1; v. 2}", "n < 1", "1 == n", "one(n)", "total(fn x: num. x * n, b)", "total(fn x: num. n, one(1))",
    "count(b, 1)", "count(one(1), n)", "support(b)", "total(f, one(n))", "total(f, support(b))", "n + n * n", "-(n * n)",
    "(m, n * n)", "first((m, n * n))", "let x = n in x * x", "let x = n in x * n", "let x = n in fn y: num. x",
    "let x = n * n in x", "let x = (n, u) in first(x)", "let x = (n, u) in x", "let x = (e, b) in second(x)",
    "let n = n in n * n", "let x = fn y: num. n in 1", "let x = b in support(x)", "let x = n in total(fn y: num. y * x, b)",
    "let x = one(n) in 1", "total(fn x: num. x, b) * n", "m * (n * n)", "let x = n in let x = x in x * x",
    "let m = n in m * n", "zero(num) * (n * n)",
)


class SteadyTest(AskingCase):

    def test_each_row(self):
        for texts, expected in ((STEADY, True), (NOT_STEADY, False)):
            for text in texts:
                term = read_term(text)
                kind_of(CONTEXT, term)
                with self.subTest(text):
                    self.assertIs(is_steady(CONTEXT, CHANGING, term), expected)
                    self.assertIs(is_steady(written=term, changing=CHANGING, context=CONTEXT), expected)

    def test_in_no_names_each_term_is(self):
        for text in STEADY + NOT_STEADY:
            self.assertIs(is_steady(CONTEXT, (), read_term(text)), True)

    def test_names_of_another_kind(self):
        for changing, text, expected in (
                (("e",), "e", False), (("e",), "n", True), (("e", "n"), "n + n", True), (("e", "n"), "(e, n)", False),
                (("f",), "total(f, b)", False), (("b", "f"), "total(fn x: num. x, b)", True), (("u",), "(u, n)", False),
                (("p",), "first(p)", False), (("e",), "let e = n in e", True), (("e",), "let x = e in n", False),
                (("e",), "fn e: num. e", True), (("u",), "u", False), (("n", "p"), "let p = n in p + p", True),
                (("e", "n"), "let e = e in n", False), (("f", "n"), "(fn f: num. f)(1) + n", True),
                (("p", "u"), "let p = n in let u = p in (u, u)", True)):
            with self.subTest(text, changing=changing):
                self.assertIs(is_steady(CONTEXT, changing, read_term(text)), expected)

    def test_the_last_pair_of_a_name_counts(self):
        self.assertIs(is_steady((("x", NUM), ("x", UNIT)), ("x",), ("name", "x")), False)
        self.assertIs(is_steady((("x", UNIT), ("x", NUM)), ("x",), ("name", "x")), True)

    def test_drawn_terms_by_another_reading(self):
        """Each part in which a name that may change stands free is one of those told."""
        found = {True: 0, False: 0}
        names = tuple(pair for pair in CONTEXT if pair[0] != "x'")
        for seed in range(3000):
            drawer = Drawer(seed)
            term = drawer.term(names, drawer.one_of(NUM, BAG, drawer.kind(3)), drawer.one_of(3, 4))
            if is_written(term):
                changing = tuple(name for name, _ in sorted(names) if drawer.chance(30))
                expected = is_steady_told(dict(names), set(changing), term)
                with self.subTest(seed):
                    self.assertIs(is_steady(CONTEXT, changing, term), expected)
                found[expected] += bool(oracle.names_in(term) & set(changing))
        self.assertGreater(min(found.values()), 150)

    def test_the_change_of_a_steady_term_hangs_on_the_changes_alone(self):
        names = dict(CONTEXT)
        for at, text in enumerate(STEADY):
            term, drawer = read_term(text), Drawer(at)
            kind = oracle.kind_of(names, term)
            if oracle.is_data(kind) and "f" not in oracle.names_in(term):
                held = {name: drawer.value(told) for name, told in CONTEXT if oracle.is_data(told)}
                changes = tuple((name, drawer.value(names[name])) for name in CHANGING)
                found = set()
                for _ in range(5):
                    values = {**held, **{name: drawer.value(names[name]) for name in CHANGING}}
                    told = tuple((name, names[name], value) for name, value in values.items() if name != "x'")
                    was = oracle.meaning(names, values, term, oracle.Calls())
                    change = kept_change(told, changes, term)
                    found.add(oracle.less(kind, oracle.led(kind, was, change), was))
                with self.subTest(text):
                    self.assertEqual(len(found), 1)


def is_steady_told(kinds, changing, term):
    """[D4] read once more: by the names that stand free in each part."""
    free = oracle.names_in(term) & changing
    if not free:
        return True
    if any(not oracle.is_group(kinds[name]) for name in free):
        return False
    word, moved = term[0], [bool(oracle.names_in(part) & changing) for part in term[1:] if isinstance(part, tuple)]
    if word == "let":
        inner = changing - {term[1]} | ({term[1]} if moved[0] else set())
        return (is_steady_told(kinds, changing, term[2])
                and is_steady_told({**kinds, term[1]: oracle.kind_of(kinds, term[2])}, inner, term[3]))
    if word == "times" and moved == [True, True] or word == "total" and moved[0]:
        return False
    allowed = ("name", "plus", "minus", "pair", "first", "second", "times", "total")
    return word in allowed and (word == "name" or all(is_steady_told(kinds, changing, part) for part in term[1:]))


class AddsTest(AskingCase):

    ADDING = (
        "fn b: bag num. b", "fn b: bag num. zero(num)", "fn b: bag num. 7", "fn b: bag num. one(3)",
        "fn b: bag num. total(fn x: num. x * x, b)", "fn b: bag num. count(b, 1)", "fn b: bag num. -b + one(1)",
        "fn b: bag num. (total(fn x: num. 1, b), b)", "fn b: bag num. one(1) + total(fn x: num. one(x), one(5))",
        "fn b: bag num. total(fn x: num. total(fn y: num. x * y, one(1) + one(2)), b)",
        "let k = 3 in fn b: bag num. k * total(fn x: num. x, b) + k", "fn b: bag num. 0 * count(b, 1) * count(b, 1)",
        "(fn f: bag num -> num. f)(fn b: bag num. total(fn x: num. x, b))",
    )
    NOT_ADDING = (
        ("fn b: bag num. support(b)", ((1, 1),), ((1, 1),)), ("fn b: bag num. support(b)", ((1, 1),), ((1, -1),)),
        ("fn b: bag num. count(b, 1) * count(b, 1)", ((1, 1),), ((1, 1),)),
        ("fn b: bag num. case count(b, 1) < 1 {u. 0; u. 1}", ((1, 1),), ((1, 1),)),
        ("fn b: bag num. total(fn x: num. count(b, x), b)", ((1, 1),), ((1, 1),)),
        ("fn b: bag num. (count(b, 2), support(b))", ((2, 1),), ((2, 3),)),
    )

    def test_functions_that_add_up(self):
        for at, text in enumerate(self.ADDING):
            term, drawer = read_term(text), Drawer(at)
            for _ in range(20):
                one, two = drawer.value(BAG), drawer.value(BAG)
                with self.subTest(text, one=one, two=two):
                    self.assertIs(adds(term, one, two), True)
                    self.assertIs(adds(two=two, written=term, one=one), True)
                    self.assertIs(adds(term, one, one), True)
                    self.assertIs(adds(term, (), one), True)
                    self.assertIs(adds(term, one, ()), True)

    def test_functions_that_do_not(self):
        for text, one, two in self.NOT_ADDING:
            term = read_term(text)
            with self.subTest(text):
                self.assertIs(adds(term, one, two), False)
                self.assertIs(adds(term, two, one), False)
                # Beside the empty bag nothing shows.
                self.assertIs(adds(term, one, ()), True)
                self.assertIs(adds(term, (), two), True)
                self.assertIs(adds(term, (), ()), True)

    def test_drawn_functions(self):
        found = {True: 0, False: 0}
        for seed in range(2000):
            drawer = Drawer(seed)
            plain, group = drawer.plain_kind(2), drawer.group_kind(2)
            bags, body = ("bag", plain), ("unit",)
            while "b" not in oracle.names_in(body) or not is_written(body):
                body = drawer.term((("b", bags),), group, drawer.one_of(3, 4, 5))
            term = ("fn", "b", bags, body)
            one, two = drawer.value(bags), drawer.value(bags)
            call = oracle.meaning({}, {}, term, oracle.Calls())
            expected = oracle.plus(group, call(one), call(two)) == oracle.plus(
                group, call(oracle.plus(bags, one, two)), call(()))
            with self.subTest(seed):
                self.assertIs(adds(term, one, two), expected)
            found[expected] += 1
        self.assertGreater(found[True], 100)
        self.assertGreater(found[False], 5)

    def test_where_it_adds_up_the_change_hangs_on_the_change_alone(self):
        for text in self.ADDING:
            term = read_term(text)
            changes = set()
            for bag in ((), ((1, 1),), ((-2, 4), (1, -3))):
                told = kept_change((("b", BAG, bag),), (("b", ((1, 1), (7, 2))),), ("call", term, ("name", "b")))
                changes.add(told)
            self.assertEqual(len(changes), 1)

    def test_other_kinds(self):
        for text in ("fn x: num. x", "fn b: bag num. ()", "fn b: bag num. (1, ())", "fn b: bag num. fn x: num. x", "1",
                     "(fn b: bag num. 1, 1)", "fn b: bag num. left(1, num)", "fn x: (num, bag num). 1", "()",
                     "fn f: bag num -> num. 1", "fn b: bag num. (1, fn x: num. 1)", "fn u: unit. 1"):
            kind = kind_of((), read_term(text))
            self.assert_told(NotData, {"kind": kind}, adds, read_term(text), (), ())
            self.assert_told(NotData, {"kind": kind}, adds, read_term(text), None, None)


class WrongArgumentsTest(AskingCase):

    def test_each_and_several_at_once_of_is_steady(self):
        context = (("x", NUM), ("y", BAG), ("z", SIDES), ("z'", NUM), ("x'", UNIT))
        self.check_wrong(is_steady, {"context": context, "changing": ("x", "z"), "written": ("name", "x")},
                         {"context": wrong_contexts(), "changing": wrong_changing(), "written": wrong_written()})

    def test_each_and_several_at_once_of_adds(self):
        bags = [thing for thing in odd_elements() if thing != ()] + [
            ((1, 0),), ((2, 1), (1, 1)), ((True, 1),), [(1, 1)], ((1, 1), (1, 1)), 0, None, (((), 1),)]
        self.check_wrong(adds, {"written": read_term("fn b: bag num. 1"), "one": (), "two": ((1, 1),)},
                         {"written": wrong_written(), "one": indexed(InvalidValues, [(bag, 0) for bag in bags]),
                          "two": indexed(InvalidValues, [(bag, 1) for bag in bags])})

    def test_what_is_told_last(self):
        self.assert_told(InvalidContext, {"index": None}, is_steady, None, None, None)
        self.assert_told(InvalidChanging, {"index": 0}, is_steady, (), (None,), None)
        self.assert_told(InvalidTerm, {"place": (1,)}, is_steady, (), (), ("minus", 1))
        self.assert_told(WrongTerm, {"place": (1,)}, is_steady, (), (), ("minus", ("unit",)))
        self.assert_told(InvalidTerm, {"place": ()}, adds, None, None, None)
        self.assert_told(WrongTerm, {"place": (3,)}, adds, ("fn", "b", BAG, ("name", "c")), None, None)
        self.assert_told(NotData, {"kind": read_kind("num")}, adds, ("number", 1), None, None)
        self.assert_told(InvalidValues, {"index": 0}, adds, read_term("fn b: bag num. b"), None, None)
        self.assert_told(InvalidValues, {"index": 1}, adds, read_term("fn b: bag num. b"), (), None)


class StillTest(AskingCase):

    def test_a_term_in_which_nothing_changes_is_still(self):
        """The change of a steady term by still changes is the still one."""
        for text in STEADY:
            term = read_term(text)
            found = derivative(CONTEXT, (), term)
            kind = kind_of(CONTEXT, term)
            self.assertEqual(kind_of(CONTEXT, found), oracle.changes(kind))
            if oracle.is_data(kind) and not oracle.names_in(term):
                self.assert_same(applied(found, ()), applied(("call", stillness_term(kind), term), ()))


if __name__ == "__main__":
    unittest.main()
