"""[B2], [B3] and meaning.py: what terms mean, how many calls that takes, and functions called with data."""

import copy
import unittest

from changewise.errors import InvalidNames, InvalidTerm, InvalidValues, NotData, WrongTerm
from changewise.meaning import applied, calls_in, value_in
from changewise.text import read_kind, read_term
from tests import oracle
from tests.asking import AskingCase, tower, wrong_names, wrong_terms, wrong_values
from tests.drawing import Drawer
from tests.sampling import Sampler

NUM, UNIT = ("num",), ("unit",)
BAG, STEP, SIDES = ("bag", NUM), ("fun", NUM, NUM), ("either", NUM, UNIT)
PAIRS = ("bag", ("pair", NUM, NUM))
X, ONE = ("name", "x"), ("number", 1)
SO, NOT_SO = ("left", ()), ("right", ())
NAMES = (("n", NUM, 2), ("m", NUM, -3), ("b", BAG, ((1, 2), (2, 5), (7, -1))), ("e", SIDES, ("left", 3)),
         ("o", SIDES, ("right", ())), ("p", ("pair", NUM, BAG), ("pair", 4, ((1, 1),))), ("z", BAG, ()),
         ("c", PAIRS, ((("pair", 1, 2), -2), (("pair", 3, 0), 1))))
KINDS = {name: kind for name, kind, _ in NAMES}
MEANS = {name: value for name, _, value in NAMES}
GREAT = 10 ** 399

VALUES = (
    ("n", 2), ("b", ((1, 2), (2, 5), (7, -1))), ("(fn x: num. x + n)(5)", 7), ("(fn n: num. n)(n + 1) + n", 5),
    ("let n = n + 1 in n * n", 9), ("let x = n in let n = 5 in (x, n)", ("pair", 2, 5)), ("()", ()), ("-7", -7),
    ("n + m", -1), ("b + b", ((1, 4), (2, 10), (7, -2))), ("b + -b", ()), ("p + p", ("pair", 8, ((1, 2),))),
    ("p + -(3, b)", ("pair", 1, ((1, -1), (2, -5), (7, 1)))), ("-n", -2), ("-b", ((1, -2), (2, -5), (7, 1))),
    ("-p", ("pair", -4, ((1, -1),))), ("-z", ()), ("n * m", -6), ("0 * n", 0), ("zero(num)", 0), ("zero(bag unit)", ()),
    ("zero((num, (bag num, num)))", ("pair", 0, ("pair", (), 0))), ("(n, e)", ("pair", 2, ("left", 3))),
    ("first(p)", 4), ("second(p)", ((1, 1),)), ("first((fn x: num. x, n))(8)", 8), ("left(n, num)", ("left", 2)),
    ("right(num, n)", ("right", 2)), ("case e {x. x + 1; u. 0}", 4), ("case o {x. x + 1; u. 0}", 0),
    ("case e {n. n; u. n}", 3), ("case o {n. n; u. n}", 2), ("case left(fn x: num. x * n, num) {f. f(5); x. x}", 10),
    ("case right(num -> num, 6) {f. f(5); x. x}", 6), ("one(n)", ((2, 1),)), ("one(())", (((), 1),)),
    ("one((n, n < m))", ((("pair", 2, NOT_SO), 1),)), ("total(fn x: num. x, b)", 5), ("total(fn x: num. x * x, b)", -27),
    ("total(fn x: num. one(x * 0), b)", ((0, 6),)), ("total(fn x: num. one(x), b)", ((1, 2), (2, 5), (7, -1))),
    ("total(fn x: num. x, z)", 0), ("total(fn x: num. b, z)", ()), ("total(fn x: num. p, z)", ("pair", 0, ())),
    ("total(fn x: num. p, b)", ("pair", 24, ((1, 6),))), ("total(fn x: num. (x, b), one(3) + one(3))",
        ("pair", 6, ((1, 4), (2, 10), (7, -2)))),
    ("total(fn q: (num, num). first(q) * 10 + second(q), c)", 6), ("total(fn q: (num, num). one(second(q)), c)",
        ((0, 1), (2, -2))),
    ("total(fn x: num. -x, -b)", 5), ("count(b, 2)", 5), ("count(b, 7)", -1), ("count(b, n + 1)", 0),
    ("count(c, (1, 2))", -2), ("count(z, n)", 0), ("support(b)", ((1, 1), (2, 1))), ("support(-b)", ((7, 1),)),
    ("support(c)", ((("pair", 3, 0), 1),)), ("support(z)", ()),
    ("m < n", SO), ("n < n", NOT_SO), ("n < m", NOT_SO), ("m <= n", SO), ("n <= n", SO), ("n <= m", NOT_SO),
    ("n == 2", SO), ("n == m", NOT_SO),
    ("(fn f: num -> num. f(f(f(n))))(fn x: num. x * x)", 256),
    ("let g = fn f: num -> num. fn x: num. f(f(x)) in g(g(fn x: num. x + n))(0)", 8),
    ("let p = (fn x: num. x + n, fn f: num -> num. f(1)) in second(p)(first(p))", 3),
    ("let f = fn x: num. x * n in let n = 100 in f(3)", 6),
    ("(fn a: num. fn b: num. fn c: num. a * b + c)(2)(3)(4)", 10),
)
CALLS = (
    ("n", 0), ("(fn x: num. x)(n)", 1), ("let x = (fn y: num. y)(n) in x + x", 1), ("let f = fn y: num. y in n", 0),
    ("(fn x: num. 5)((fn y: num. y)(n))", 2), ("total(fn x: num. x, b)", 3), ("total(fn x: num. x, z)", 0),
    ("total((fn k: num. fn x: num. x + k)(n), z)", 1), ("total((fn k: num. fn x: num. x + k)(n), b)", 4),
    ("total(fn x: num. (fn y: num. y)((fn w: num. w)(x)), b)", 9), ("(fn f: num -> num. f(f(n)))(fn x: num. x)", 3),
    ("case e {x. (fn y: num. y)(x); u. (fn f: num -> num. f(f(1)))(fn y: num. y)}", 1),
    ("case o {x. (fn y: num. y)(x); u. (fn f: num -> num. f(f(1)))(fn y: num. y)}", 3),
    ("first(((fn x: num. x)(1), (fn x: num. x)(2)))", 2), ("total(fn q: (num, num). first(q), c + c + c)", 2),
    ("total(fn x: num. total(fn y: num. x * y, b), b)", 12), ("(fn x: num. fn y: num. x)(1)(2)", 2),
)


class MeaningTest(AskingCase):

    def test_each_row(self):
        for text, value in VALUES:
            with self.subTest(text):
                self.assert_same(value_in(NAMES, read_term(text)), value)
                self.assert_same(value_in(term=read_term(text), names=NAMES), value)

    def test_calls(self):
        for text, calls in CALLS:
            with self.subTest(text):
                self.assert_same(calls_in(NAMES, read_term(text)), calls)
                self.assert_same(calls_in(term=read_term(text), names=NAMES), calls)

    def test_comparisons(self):
        for one in (-GREAT, -2, -1, 0, 1, 2, GREAT):
            for two in (-GREAT, -2, -1, 0, 1, 2, GREAT):
                names = (("x", NUM, one), ("y", NUM, two))
                for sign, so in (("<", one < two), ("<=", one <= two), ("==", one == two)):
                    self.assertEqual(value_in(names, ("is", sign, X, ("name", "y"))), SO if so else NOT_SO)

    def test_drawn_terms_of_every_word(self):
        seen, made = set(), 0
        for seed in range(1500):
            drawer = Drawer(seed)
            kind = drawer.data_kind(3)
            term = drawer.term(tuple(KINDS.items()), kind, drawer.one_of(4, 5, 6))
            names = tuple((name, told, drawer.value(told)) for name, told in KINDS.items())
            calls = oracle.Calls()
            expected = oracle.meaning(KINDS, {name: value for name, _, value in names}, term, calls)
            with self.subTest(seed):
                self.assert_same(value_in(names, term), expected)
                self.assert_same(calls_in(names, term), calls.made)
            seen |= set(repr(term).replace("(", "'").split("'"))
            made += calls.made
        self.assertGreater(made, 1000)
        for word in ("fn", "call", "let", "unit", "number", "plus", "minus", "times", "zero", "pair", "first", "second",
                     "left", "right", "case", "is", "one", "total", "count", "support"):
            self.assertIn(word, seen)

    def test_the_last_value_of_a_name_counts(self):
        names = (("x", NUM, 1), ("x", BAG, ((5, 1),)), ("y", NUM, 7), ("x", NUM, 3))
        self.assert_same(value_in(names, ("plus", X, X)), 6)
        self.assert_same(value_in(names[:2], X), ((5, 1),))
        self.assert_told(WrongTerm, {"place": (1,)}, value_in, names, ("support", X))

    def test_great_numbers(self):
        names = (("x", NUM, GREAT), ("b", BAG, ((-GREAT, GREAT), (3, -1))))
        self.assert_same(value_in(names, ("plus", X, ("minus", X))), 0)
        self.assert_same(value_in(names, read_term("x + x")), 2 * GREAT)
        self.assert_same(value_in(names, read_term("total(fn y: num. y, b)")), -GREAT * GREAT - 3)
        self.assert_same(value_in(names, read_term("count(b + b, -x)")), 2 * GREAT)
        self.assert_same(value_in(names, read_term("b + one(-x)")), ((-GREAT, GREAT + 1), (3, -1)))
        self.assert_same(value_in((), read_term("1" * 400)), int("1" * 400))

    def test_a_name_bound_again_within_its_own_side(self):
        for text, value in (("let x = 1 in let x = x + 1 in let x = x * 10 in x", 20),
                            ("let x = let x = 5 in x + 1 in x", 6), ("let x = 3 in (let x = x in x) + x", 6),
                            ("case left(4, unit) {x. case left(x + 1, unit) {x. x; u. 0}; u. 1}", 5),
                            ("(fn x: num. (fn x: num. x * 2)(x + 1) + x)(3)", 11),
                            ("let f = fn x: num. x in let f = fn x: num. f(x) + 1 in f(5)", 6)):
            self.assert_same(value_in((), read_term(text)), value)

    def test_functions_of_functions_pairs_and_sides(self):
        for text, value in (
                ("let t = (fn x: num. x + 1, left(fn x: num. x * 2, unit)) in "
                 "case second(t) {f. f(first(t)(4)); u. 0}", 10),
                ("let k = fn s: (num -> num) | num. case s {f. f(7); x. x} in "
                 "(k(left(fn x: num. -x, num)), k(right(num -> num, 3)))", ("pair", -7, 3)),
                ("let c = fn f: num -> num. fn g: num -> num. fn x: num. f(g(x)) in "
                 "c(c(fn x: num. x + 1)(fn x: num. x * 2))(fn x: num. x * x)(3)", 19),
                ("total((fn f: num -> num -> num. f(10))(fn a: num. fn x: num. a * x), b)", 50),
                ("(fn p: (num -> num, (num -> num) -> num). second(p)(first(p)))"
                 "((fn x: num. x + n, fn f: num -> num. f(f(1))))", 5)):
            with self.subTest(text):
                self.assert_same(value_in(NAMES, read_term(text)), value)

    def test_deep_terms(self):
        self.assert_same(value_in((("x", NUM, 5),), tower(60)), -5)
        self.assert_same(value_in((("x", NUM, 5),), tower(59)), 5)


class AppliedTest(AskingCase):

    def test_functions_of_several_arguments(self):
        for many in range(9):
            term = ONE
            for at in range(many):
                term = ("plus", ("times", term, ("number", 10)), ("name", f"x{at}"))
            for at in reversed(range(many)):
                term = ("fn", f"x{at}", NUM, term)
            values = tuple(range(2, 2 + many))
            expected = int("1" + "".join(str(value) for value in values))
            self.assert_same(applied(term, values), expected)
            self.assert_same(applied(values=values, term=term), expected)
            if many:
                self.assert_told(NotData, {"kind": kind_of_steps(1)}, applied, term, values[:-1])
            if many < 8:
                self.assert_told(InvalidValues, {"index": many}, applied, term, values + (1,))

    def test_arguments_of_each_data_kind(self):
        for seed in range(300):
            drawer = Drawer(seed)
            kinds = [drawer.data_kind(3) for _ in range(drawer.random.randrange(4))]
            kind = answer = drawer.data_kind(3)
            for told in kinds[::-1]:
                kind = ("fun", told, kind)
            term = drawer.term((), kind, 5)
            values = tuple(drawer.value(told) for told in kinds)
            expected = oracle.meaning({}, {}, term, oracle.Calls())
            for value in values:
                expected = expected(value)
            with self.subTest(seed):
                self.assert_same(applied(term, values), expected)
                self.assertTrue(oracle.is_value(answer, expected))

    def test_what_is_left_may_be_no_data(self):
        for text, values, kind in (
                ("fn x: num. x", (), "num -> num"), ("fn x: num. fn y: num. x", (1,), "num -> num"),
                ("(fn x: num. x, 1)", (), "(num -> num, num)"), ("fn x: num. (x, fn y: num. y)", (1,),
                    "(num, num -> num)"),
                ("fn x: num. left(fn y: num. y, num)", (2,), "(num -> num) | num"),
                ("fn f: num -> num. 1", (), "(num -> num) -> num")):
            self.assert_told(NotData, {"kind": read_kind(kind)}, applied, read_term(text), values)

    def test_no_value_is_one_of_a_function_kind(self):
        term = read_term("fn x: num. fn f: num -> num. f(x)")
        for thing in (1, ("fn", "x", NUM, X), None, (), len):
            self.assert_told(InvalidValues, {"index": 1}, applied, term, (1, thing))
        self.assert_told(InvalidValues, {"index": 0}, applied, ONE, (1,))
        self.assert_told(InvalidValues, {"index": 0}, applied, read_term("(fn x: num. x, 1)"), (1,))

    def test_marked_names_within(self):
        self.assert_same(applied(("fn", "x'", NUM, ("plus", ("name", "x'"), ONE)), (4,)), 5)
        self.assert_told(WrongTerm, {"place": (3,)}, applied, ("fn", "x", NUM, ("name", "x'")), (4,))

    def test_a_second_call_gives_the_same(self):
        sampler = Sampler(Drawer(1))
        term = sampler.drawer.term((), ("fun", BAG, BAG), 5)
        value = sampler.value(BAG)
        self.assert_same(applied(term, (value,)), applied(term, (value,)))


def kind_of_steps(many):
    kind = NUM
    for _ in range(many):
        kind = ("fun", NUM, kind)
    return kind


class WrongArgumentsTest(AskingCase):

    def test_each_and_several_at_once(self):
        for call in (value_in, calls_in):
            self.check_wrong(call, {"names": (("x", NUM, 1),), "term": X},
                             {"names": wrong_names(), "term": wrong_terms()})
        term = read_term("fn x: num. fn b: bag num. fn f: num -> num. f(x)")
        self.check_wrong(applied, {"term": term, "values": (1, ())},
                         {"term": wrong_terms(), "values": wrong_values()}, NotData)

    def test_what_is_told_last(self):
        context = (("x", UNIT, ()),)
        for call in (value_in, calls_in):
            self.assert_told(InvalidNames, {"index": 0}, call, (1,), ("minus", 1))
            self.assert_told(InvalidTerm, {"place": (1,)}, call, context, ("minus", 1))
            self.assert_told(WrongTerm, {"place": (1,)}, call, context, ("minus", X))
            self.assert_told(WrongTerm, {"place": (3, 1)}, call, context, ("fn", "y", NUM, ("minus", X)))
            step = ("fun", NUM, UNIT)
            self.assert_told(NotData, {"kind": step}, call, context, ("fn", "y", NUM, X))
            self.assert_told(NotData, {"kind": ("pair", UNIT, step)}, call, context, ("pair", X, ("fn", "y", NUM, X)))

    def test_of_applied_the_term_is_told_ahead_of_the_values(self):
        self.assert_told(InvalidTerm, {"place": ()}, applied, None, None)
        self.assert_told(WrongTerm, {"place": ()}, applied, X, None)
        self.assert_told(WrongTerm, {"place": (3,)}, applied, ("fn", "x", NUM, ("name", "y")), (None,))
        self.assert_told(InvalidValues, {"index": None}, applied, ("fn", "x", NUM, X), [1])
        self.assert_told(InvalidValues, {"index": 0}, applied, ("fn", "x", STEP, X), (1,))
        self.assert_told(InvalidValues, {"index": 1}, applied, read_term("fn x: num. fn y: num. fn z: num. x"),
                         (1, True))

    def test_what_was_passed_is_as_it_was(self):
        things = [[("x", NUM, 1)], (["x", NUM, 1],), ["name", "x"], ("minus", ["x"]), [1], ([1],)]
        held = copy.deepcopy(things)
        for one in things + [()]:
            for two in things + [X, ("fn", "x", NUM, X)]:
                for call in (value_in, calls_in, applied):
                    for passed in ((one, two), (two, one)):
                        try:
                            call(*passed)
                        except ValueError:
                            pass
        self.assertEqual(things, held)


if __name__ == "__main__":
    unittest.main()
