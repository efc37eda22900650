"""[A8] and what text.py shows: blanks and brackets just where told, and what is shown, read back."""

import re
import unittest

from changewise.errors import InvalidKind, InvalidSheet, InvalidTerm, InvalidValue
from changewise.kinds import TRUTH
from changewise.text import (
    read_kind, read_sheet, read_term, read_value, show_kind, show_sheet, show_term, show_value,
)
from tests.cases import Case, nested, odd_things
from tests.drawing import Drawer

UNIT, NUM = ("unit",), ("num",)
BAG, STEP, PAIR, SIDES = ("bag", NUM), ("fun", NUM, NUM), ("pair", NUM, NUM), ("either", NUM, UNIT)
X, Y, A = ("name", "x"), ("name", "y"), ("name", "a")
ONE, TWO, THREE = ("number", 1), ("number", 2), ("number", 3)
GREAT = 10 ** 399 + 7

# A term of each word, with its text.
INNER = {
    "name": (A, "a"), "number": (("number", -3), "-3"), "unit": (("unit",), "()"),
    "fn": (("fn", "a", NUM, A), "fn a: num. a"),
    "call": (("call", A, A), "a(a)"), "let": (("let", "a", A, A), "let a = a in a"),
    "plus": (("plus", A, A), "a + a"),
    "minus": (("minus", A), "-a"), "times": (("times", A, A), "a * a"), "zero": (("zero", NUM), "zero(num)"),
    "pair": (("pair", A, A), "(a, a)"),
    "first": (("first", A), "first(a)"), "second": (("second", A), "second(a)"),
    "left": (("left", A, NUM), "left(a, num)"),
    "right": (("right", NUM, A), "right(num, a)"), "case": (("case", A, "a", A, "a", A), "case a {a. a; a. a}"),
    "is": (("is", "<", A, A), "a < a"),
    "one": (("one", A), "one(a)"), "total": (("total", A, A), "total(a, a)"),
    "count": (("count", A, A), "count(a, a)"),
    "support": (("support", A), "support(a)"),
}
LOOSE = ("fn", "let", "is")
# A term with one part to be put in, its text with a gap, and the words around which brackets stand there.
OUTER = (
    (lambda t: ("fn", "x", NUM, t), "fn x: num. {}", ()),
    (lambda t: ("call", t, X), "{}(x)", LOOSE + ("plus", "times", "minus")),
    (lambda t: ("call", X, t), "x({})", ()), (lambda t: ("let", "x", t, X), "let x = {} in x", ()),
    (lambda t: ("let", "x", X, t), "let x = x in {}", ()),
    (lambda t: ("plus", t, X), "{} + x", LOOSE), (lambda t: ("plus", X, t), "x + {}", LOOSE + ("plus",)),
    (lambda t: ("minus", t), "-{}", LOOSE + ("plus", "times")),
    (lambda t: ("times", t, X), "{} * x", LOOSE + ("plus",)),
    (lambda t: ("times", X, t), "x * {}", LOOSE + ("plus", "times")),
    (lambda t: ("pair", t, X), "({}, x)", ()), (lambda t: ("pair", X, t), "(x, {})", ()),
    (lambda t: ("first", t), "first({})", ()), (lambda t: ("second", t), "second({})", ()),
    (lambda t: ("left", t, NUM), "left({}, num)", ()), (lambda t: ("right", NUM, t), "right(num, {})", ()),
    (lambda t: ("case", t, "x", X, "y", Y), "case {} {{x. x; y. y}}", ()),
    (lambda t: ("case", X, "x", t, "y", Y), "case x {{x. {}; y. y}}", ()),
    (lambda t: ("case", X, "x", X, "y", t), "case x {{x. x; y. {}}}", ()),
    (lambda t: ("is", "<", t, X), "{} < x", LOOSE), (lambda t: ("is", "<=", X, t), "x <= {}", LOOSE),
    (lambda t: ("is", "==", t, X), "{} == x", LOOSE),
    (lambda t: ("one", t), "one({})", ()), (lambda t: ("total", t, X), "total({}, x)", ()),
    (lambda t: ("total", X, t), "total(x, {})", ()),
    (lambda t: ("count", t, X), "count({}, x)", ()), (lambda t: ("count", X, t), "count(x, {})", ()),
    (lambda t: ("support", t), "support({})", ()),
)

INNER_KINDS = {
    "unit": (UNIT, "unit"), "num": (NUM, "num"), "pair": (PAIR, "(num, num)"), "either": (SIDES, "num | unit"),
    "bag": (("bag", UNIT), "bag unit"),
    "fun": (("fun", UNIT, NUM), "unit -> num"),
}
OUTER_KINDS = (
    (lambda k: ("pair", k, NUM), "({}, num)", ()), (lambda k: ("pair", NUM, k), "(num, {})", ()),
    (lambda k: ("either", k, NUM), "{} | num", ("fun",)),
    (lambda k: ("either", NUM, k), "num | {}", ("fun", "either")), (lambda k: ("fun", k, NUM), "{} -> num", ("fun",)),
    (lambda k: ("fun", NUM, k), "num -> {}", ()),
)


def without_blanks(text):
    """The text with blanks only where two tokens would become one, or another one."""
    return re.sub(r"(?<![a-z0-9']) | (?![a-z0-9'])", "", text)


class TermsTest(Case):

    def test_each_word(self):
        self.assertEqual(len(INNER), 21)
        for term, text in INNER.values():
            self.assertEqual(show_term(term), text)
            self.assertEqual(show_term(term=term), text)

    def test_brackets_for_each_word_within_each_other_one(self):
        for outer, gap, words in OUTER:
            for word, (inner, text) in INNER.items():
                term = outer(inner)
                with self.subTest(term):
                    expected = gap.format(f"({text})" if word in words else text)
                    self.assertEqual(show_term(term), expected)
                    self.assertEqual(read_term(expected), term)

    def test_brackets_that_are_shown_are_due(self):
        # Without them the text tells something else, or nothing.
        for outer, gap, words in OUTER:
            for word in words:
                term, bare = outer(INNER[word][0]), gap.format(INNER[word][1])
                try:
                    self.assertNotEqual(read_term(bare), term)
                except ValueError:
                    pass

    def test_a_minus_ahead_of_a_figure(self):
        for term, text in (
                (("minus", THREE), "-(3)"), (("minus", ("number", 0)), "-(0)"), (("minus", ("number", -3)), "--3"),
                (("minus", ("minus", THREE)), "--(3)"),
                (("minus", ("minus", ("number", -3))), "---3"), (("minus", ("minus", X)), "--x"),
                (("minus", ("call", THREE, X)), "-(3(x))"),
                (("minus", ("call", ("call", THREE, X), Y)), "-(3(x)(y))"),
                (("minus", ("call", ("number", -3), X)), "--3(x)"), (("minus", ("call", X, THREE)), "-x(3)"),
                (("minus", ("times", THREE, X)), "-(3 * x)"), (("minus", ("plus", THREE, X)), "-(3 + x)"),
                (("minus", ("is", "<", THREE, X)), "-(3 < x)"),
                (("minus", ("call", ("minus", THREE), X)), "-(-(3))(x)"), (("minus", ("pair", THREE, X)), "-(3, x)"),
                (("minus", ("number", GREAT)), f"-({GREAT})"),
                (("minus", ("call", ("plus", THREE, X), X)), "-(3 + x)(x)"),
                (("minus", ("first", THREE)), "-first(3)"), (("call", ("minus", THREE), X), "(-(3))(x)"),
                (("plus", ("minus", THREE), ("minus", THREE)), "-(3) + -(3)"),
                (("times", ("minus", THREE), ("number", -3)), "-(3) * -3"),
                (("minus", ("case", THREE, "x", X, "y", Y)), "-case 3 {x. x; y. y}"),
                (("minus", ("call", ("case", X, "x", X, "y", Y), X)), "-case x {x. x; y. y}(x)")):
            with self.subTest(text):
                self.assertEqual(show_term(term), text)
                self.assertEqual(read_term(text), term)

    def test_numbers(self):
        for number in (0, 1, -1, 10, -10, GREAT, -GREAT):
            self.assertEqual(show_term(("number", number)), str(number))

    def test_marked_names_and_kinds(self):
        self.assertEqual(show_term(("fn", "x'", ("fun", STEP, SIDES), ("name", "x'12"))),
                "fn x': (num -> num) -> num | unit. x'12")
        self.assertEqual(show_term(("case", X, "x'", X, "y'1", Y)), "case x {x'. x; y'1. y}")
        self.assertEqual(show_term(("let", "x'", X, X)), "let x' = x in x")
        self.assertEqual(show_term(("left", X, ("fun", NUM, STEP))), "left(x, num -> num -> num)")
        self.assertEqual(show_term(("right", ("either", NUM, SIDES), X)), "right(num | (num | unit), x)")
        self.assertEqual(show_term(("zero", ("pair", ("bag", PAIR), NUM))), "zero((bag (num, num), num))")

    def test_long_rows(self):
        row = nested(100, ("plus",), X, (ONE,))
        self.assertEqual(show_term(row), "x" + " + 1" * 99)
        self.assertEqual(show_term(nested(100, ("plus", ONE), X, ())), "1 + (" * 98 + "1 + x" + ")" * 98)
        self.assertEqual(show_term(nested(100, ("times", ONE), X, ())), "1 * (" * 98 + "1 * x" + ")" * 98)
        self.assertEqual(show_term(nested(100, ("call",), X, (Y,))), "x" + "(y)" * 99)

    def test_deep_terms(self):
        for wrap in [outer for outer, _, _ in OUTER] + [lambda t: ("fn", "x'", nested(100, ("fun",)), t)]:
            term = X
            for _ in range(99):
                term = wrap(term)
            self.assertEqual(read_term(show_term(term)), term)
        for first, _, _ in OUTER:
            for second, _, _ in OUTER:
                term = X
                for _ in range(25):
                    term = first(second(term))
                self.assertEqual(read_term(show_term(term)), term)


class KindsTest(Case):

    def test_each_word(self):
        for kind, text in INNER_KINDS.values():
            self.assertEqual(show_kind(kind), text)
            self.assertEqual(show_kind(kind=kind), text)

    def test_brackets_for_each_word_within_each_other_one(self):
        for outer, gap, words in OUTER_KINDS:
            for word, (inner, text) in INNER_KINDS.items():
                kind = outer(inner)
                with self.subTest(kind):
                    expected = gap.format(f"({text})" if word in words else text)
                    self.assertEqual(show_kind(kind), expected)
                    self.assertEqual(read_kind(expected), kind)
        for word, expected in (("unit", "bag unit"), ("num", "bag num"), ("pair", "bag (num, num)"),
                ("either", "bag (num | unit)")):
            self.assertEqual(show_kind(("bag", INNER_KINDS[word][0])), expected)

    def test_more_kinds(self):
        for kind, text in (
                (("either", ("either", NUM, UNIT), NUM), "num | unit | num"),
                (("either", NUM, ("either", UNIT, NUM)), "num | (unit | num)"),
                (("fun", NUM, ("fun", NUM, NUM)), "num -> num -> num"),
                (("fun", STEP, STEP), "(num -> num) -> num -> num"),
                (("either", STEP, STEP), "(num -> num) | (num -> num)"),
                (("fun", SIDES, SIDES), "num | unit -> num | unit"),
                (("pair", STEP, SIDES), "(num -> num, num | unit)"),
                (("bag", ("pair", SIDES, PAIR)), "bag (num | unit, (num, num))"),
                (("either", ("bag", SIDES), BAG), "bag (num | unit) | bag num")):
            with self.subTest(text):
                self.assertEqual(show_kind(kind), text)
                self.assertEqual(read_kind(text), kind)

    def test_deep_kinds(self):
        for kind, text in (
                (nested(100), "(" * 99 + "num" + ", num)" * 99),
                (nested(100, ("fun",)), "(" * 98 + "num -> num" + ") -> num" * 98),
                (nested(100, ("either",)), "num" + " | num" * 99),
                (nested(100, ("fun", NUM), NUM, ()), "num -> " * 99 + "num"),
                (nested(100, ("either", NUM), NUM, ()), "num | (" * 98 + "num | num" + ")" * 98)):
            self.assertEqual(show_kind(kind), text)
            self.assertEqual(read_kind(text), kind)


class ValuesTest(Case):

    def test_values(self):
        for kind, value, text in (
                (UNIT, (), "()"), (NUM, 0, "0"), (NUM, -12, "-12"), (NUM, GREAT, str(GREAT)),
                (PAIR, ("pair", 1, -2), "(1, -2)"), (SIDES, ("left", 3), "left(3)"),
                (SIDES, ("right", ()), "right(())"),
                (TRUTH, ("left", ()), "left(())"), (BAG, (), "{}"), (BAG, ((1, 2),), "{1: 2}"),
                (BAG, ((-1, -2), (3, 4), (5, 1)), "{-1: -2, 3: 4, 5: 1}"), (("bag", UNIT), (((), 3),), "{(): 3}"),
                (("bag", PAIR), ((("pair", 1, 2), -1), (("pair", 2, 1), 2)), "{(1, 2): -1, (2, 1): 2}"),
                (("bag", SIDES), ((("left", 1), 2), (("right", ()), 1)), "{left(1): 2, right(()): 1}"),
                (("pair", BAG, ("pair", UNIT, BAG)), ("pair", (), ("pair", (), ((1, 1),))), "({}, ((), {1: 1}))"),
                (("either", BAG, UNIT), ("left", ()), "left({})"),
                (("either", UNIT, UNIT), ("right", ()), "right(())"),
                (("either", SIDES, NUM), ("left", ("right", ())), "left(right(()))")):
            with self.subTest(text):
                self.assertEqual(show_value(kind, value), text)
                self.assertEqual(show_value(value=value, kind=kind), text)
                self.assert_same(read_value(kind, text), value)

    def test_deep_values(self):
        kind, value = nested(100, ("pair",), BAG, (UNIT,)), nested(100, ("pair",), ((1, 1),), ((),))
        # BAG is 2 deep itself.
        kind, value = kind[1], value[1]
        self.assertEqual(show_value(kind, value), "(" * 98 + "{1: 1}" + ", ())" * 98)
        self.assertEqual(read_value(kind, show_value(kind, value)), value)


class SheetsTest(Case):

    def test_sheets(self):
        for sheet, text in (
                ((), ""), ((("cell", "a", ONE),), "cell a = 1;"), ((("input", "a", NUM, -1),), "input a: num = -1;"),
                ((("input", "y", ("either", PAIR, BAG), ("right", ((1, 2),))),
                    ("cell", "f", ("fn", "x", NUM, ("plus", X, Y))),
                    ("cell", "z", ("let", "f", ("name", "f"), ("name", "f")))),
                 "input y: (num, num) | bag num = right({1: 2});\n"
                 "cell f = fn x: num. x + y;\ncell z = let f = f in f;")):
            with self.subTest(text):
                self.assertEqual(show_sheet(sheet), text)
                self.assertEqual(show_sheet(sheet=sheet), text)
                self.assertEqual(read_sheet(text), sheet)

    def test_a_sheet_needs_not_be_sound(self):
        sheet = (("cell", "a", ("call", ONE, TWO)), ("cell", "b", ("plus", ("unit",), ("name", "a"))))
        self.assertEqual(show_sheet(sheet), "cell a = 1(2);\ncell b = () + a;")
        self.assertEqual(read_sheet(show_sheet(sheet)), sheet)

    def test_forty_cells(self):
        sheet = tuple(("input", f"a{at}", NUM, at) for at in range(40))
        self.assertEqual(show_sheet(sheet).split("\n"), [f"input a{at}: num = {at};" for at in range(40)])
        self.assertEqual(read_sheet(show_sheet(sheet)), sheet)


class ReadBackTest(unittest.TestCase):

    def check(self, thing, text, read, seen):
        self.assertEqual(read(text), thing)
        self.assertEqual(read(without_blanks(text)), thing)
        self.assertEqual(read(text.replace(" ", "\n # (x' \n ")), thing)
        # Unlike things are shown by unlike texts.
        self.assertEqual(seen.setdefault(text, thing), thing)

    def test_drawn_kinds(self):
        seen = {}
        for seed in range(1000):
            kind = Drawer(seed).kind(6)
            self.check(kind, show_kind(kind), read_kind, seen)

    def test_drawn_terms(self):
        seen = {}
        for seed in range(1000):
            term = Drawer(seed).any_term(6)
            self.check(term, show_term(term), read_term, seen)

    def test_drawn_values(self):
        for seed in range(500):
            drawer = Drawer(seed)
            kind = drawer.data_kind(5)
            seen = {}
            for _ in range(4):
                value = drawer.value(kind)
                self.check(value, show_value(kind, value), lambda text: read_value(kind, text), seen)

    def test_drawn_sheets(self):
        seen = {}
        for seed in range(200):
            drawer = Drawer(seed)
            sheet = drawer.sheet(3, 4)
            self.check(sheet, show_sheet(sheet), read_sheet, seen)
            behind = drawer.sheet(2, 0) + tuple(("cell", f"c{at}", drawer.term((), NUM, 4)) for at in range(3))
            self.check(behind, show_sheet(behind), read_sheet, seen)

    def test_what_is_read_shown_and_read_again(self):
        for text in ("(((x)))+(y*(1))", "- - -(3)", "case(x){x.(1);y'.((2))}", "(fn x:(num).(x))((1))", "((x)<(y))",
                "(x)(y)", "-(x)", "x+((y))"):
            term = read_term(text)
            self.assertEqual(read_term(show_term(term)), term)
        for text in ("((num))|(unit)", "(num)->(num)->(unit)", "bag((num))"):
            self.assertEqual(read_kind(show_kind(read_kind(text))), read_kind(text))


class WrongArgumentsTest(Case):

    def test_no_kinds(self):
        for thing in odd_things() + [("bag", BAG), ("int",), nested(101), X]:
            self.assert_told(InvalidKind, {"given": thing}, show_kind, thing)
            self.assert_told(InvalidKind, {"given": thing}, show_kind, kind=thing)
            self.assert_told(InvalidKind, {"given": thing}, show_value, thing, 3)

    def test_no_data_kinds(self):
        for kind in (STEP, ("pair", STEP, NUM), ("either", NUM, STEP), ("fun", BAG, STEP)):
            self.assertIsInstance(show_kind(kind), str)
            self.assert_told(InvalidKind, {"given": kind}, show_value, kind, 3)
            # The kind comes ahead of the value.
            self.assert_told(InvalidKind, {"given": kind}, show_value, value=None, kind=kind)

    def test_no_values(self):
        for kind, things in ((NUM, (True, "3", (), None, ("num", 3))), (UNIT, (0, ((),), None)),
                (BAG, (((2, 1), (1, 1)), ((1, 0),), [(1, 1)], 0)),
                (SIDES, (("left", ()), ("right", 1), ("middle", 1), 1))):
            for thing in things:
                self.assert_told(InvalidValue, {"given": thing}, show_value, kind, thing)
                self.assert_told(InvalidValue, {"given": thing}, show_value, value=thing, kind=kind)

    def test_no_terms(self):
        for term, place in ((None, ()), ("x", ()), (["name", "x"], ()), (("plus", X, 1), (2,)),
                (("fn", "x", ("bag", BAG), X), (2,)), (("minus", ("number", True)), (1, 1)),
                            (nested(101, ("minus",), X, ()), (1,) * 100), (("number", 10 ** 400), (1,))):
            with self.assertRaises(InvalidTerm) as caught:
                show_term(term)
            self.assertEqual(caught.exception.place, place)

    def test_no_sheets(self):
        right = ("cell", "a", ONE)
        for sheet, index in (
                (None, None), ("", None), ([right], None), ({}, None), ((right,) * 41, None),
                (tuple(("cell", f"a{at}", ONE) for at in range(41)), None), (right, 0), ((None,), 0),
                ((right, right), 1),
                ((right, ("cell", "b", ("name", "c"))), 1), ((("cell", "b", ("name", "b")),), 0),
                ((right, ["cell", "b", ONE]), 1), ((right, ("cell", "b")), 1), ((right, ("cell", "b", ONE, ONE)), 1),
                ((right, ("Cell", "b", ONE)), 1), ((right, ("input", "b", ONE)), 1),
                ((right, ("input", "b", NUM, True)), 1), ((right, ("input", "b", STEP, 1)), 1),
                ((right, ("input", "b'", NUM, 1)), 1),
                ((right, ("cell", "b'", ONE)), 1), ((right, ("cell", "let", ONE)), 1),
                ((right, ("cell", "b", ("name", "a'"))), 1), ((right, ("cell", "b", ("plus", ONE))), 1),
                ((right, ("cell", ["b"], ONE)), 1),
                ((right, ("input", "b", nested(7), nested(7, ("pair",), 1, (1,)))), 1),
                ((right, ("cell", "b", nested(13, ("minus",), ONE, ()))), 1), (((), right), 0),
                ((right, (), right), 1),
                ((("cell", "a", ("name", "b")), None), 0), ((right, ("input", "b", NUM, 1, 1)), 1)):
            with self.subTest(sheet):
                self.assert_told(InvalidSheet, {"index": index}, show_sheet, sheet)
                self.assert_told(InvalidSheet, {"index": index}, show_sheet, sheet=sheet)
        for thing in odd_things():
            if not isinstance(thing, tuple) or thing == ():
                continue
            self.assert_told(InvalidSheet, {"index": 0}, show_sheet, thing)

    def test_what_is_just_a_sheet(self):
        for sheet in ((("input", "b", nested(6), nested(6, ("pair",), 1, (1,))),),
                (("cell", "b", nested(12, ("minus",), ONE, ())),)):
            self.assertEqual(read_sheet(show_sheet(sheet)), sheet)


if __name__ == "__main__":
    unittest.main()
