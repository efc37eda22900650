"""[A5], [E1] to [E4] and the functions of sheets.py: sound sheets, what they show, edits."""

import copy
import unittest

from changewise.errors import InvalidEdit, InvalidSheet, UnknownName
from changewise.sheets import (
    Keeper, back_edit, edited, hangs_on, is_edit, is_sound, joined_edits, kinds_in, looked_at, shown,
)
from changewise.text import read_sheet, read_value
from tests.cases import Case, Stubborn, nested, odd_things

UNIT, NUM = ("unit",), ("num",)
BAG, STEP, PAIR, SIDES = ("bag", NUM), ("fun", NUM, NUM), ("pair", NUM, NUM), ("either", NUM, UNIT)
A, X, ONE = ("name", "a"), ("name", "x"), ("number", 1)

SHOP = read_sheet("""
input price: num = 3;
input sold: bag num = {1: 2, 5: 1};
input rebate: num | unit = right(());
cell by = fn x: num. x * price;
cell sum = total(by, sold);
cell least = case rebate {r. r; u. 0};
cell due = sum + -least;
cell often = count(sold, 5);
cell many = total(fn x: num. 1, sold);
cell asks = (by, many);
""")

# Unsound sheets, of texts that can be read, with the index of the first cell that has no kind.
UNSOUND = (
    ("cell a = 1 + ();", 0), ("cell a = 1; cell b = a(1);", 1), ("cell a = fn x: num. x; cell b = a(());", 1),
    ("cell a = () + ();", 0), ("cell a = -();", 0),
    ("cell a = 1 * ();", 0), ("cell a = () * 1;", 0), ("cell a = zero(bag num) * 1;", 0), ("cell a = first(1);", 0),
    ("cell a = second(());", 0),
    ("cell a = case 1 {x. x; y. y};", 0), ("cell a = case left(1, unit) {x. x; y. y};", 0), ("cell a = 1 < ();", 0),
    ("cell a = () < 1;", 0), ("cell a = () == ();", 0),
    ("cell a = one(zero(bag num));", 0), ("cell a = one(fn x: num. x);", 0), ("cell a = total(fn x: num. x, 1);", 0),
    ("cell a = total(1, one(1));", 0),
    ("cell a = total(fn x: num. (), one(1));", 0), ("cell a = total(fn x: num. x, one(()));", 0),
    ("cell a = total(fn x: bag num. 1, one(1));", 0), ("cell a = count(1, 1);", 0),
    ("cell a = count(one(1), ());", 0), ("cell a = support(1);", 0), ("cell a = zero(bag num) + zero(bag unit);", 0),
    ("cell a = (1, 2) + (1, zero(bag num));", 0),
    ("cell a = 1; cell b = a + 1; cell c = a + b(1);", 2), ("input a: num = 1; cell b = let c = a in c(1);", 1),
    ("cell a = (fn x: num -> num. x(1))(fn y: unit. 1);", 0),
    ("cell a = (1, ()) + (1, ());", 0), ("cell a = -(fn x: num. x);", 0),
    ("cell a = left(1, unit) + left(1, unit);", 0), ("input i: unit = (); cell a = i + i;", 1),
)
SOUND = (
    "", "cell a = (1, 2) + (3, 4);", "cell a = -(1, one(()));",
    "cell a = fn x: num -> num. x(1); cell b = a(fn y: num. y + 1);", "cell a = case left(1, unit) {x. x; y. 2};",
    "cell a = one((1, left((), num)));", "cell a = total(fn x: (num, unit). (first(x), one(x)), one((1, ())));",
    "cell a = fn a: num. a; cell b = a(2);", "input i: unit = (); cell a = one(i);",
    "cell a = let a = 1 in a; cell b = case left(a, unit) {a. a; b. a};",
    "cell a = fn x: bag num. support(x) + x; cell b = a(one(1));", "cell a = left(fn x: num. x, num);",
    "cell f = fn g: num -> num -> num. g(1)(2); cell g = f(fn x: num. fn y: num. x * y);",
)


def cells_of(many):
    return tuple(("cell", f"c{at}", ONE) for at in range(many))


class SoundTest(Case):

    def test_sound_sheets(self):
        for text in SOUND:
            with self.subTest(text):
                self.assertIs(is_sound(read_sheet(text)), True)
                self.assertIs(is_sound(value=read_sheet(text)), True)
        self.assertIs(is_sound(SHOP), True)
        self.assertIs(is_sound(cells_of(40)), True)

    def test_terms_of_no_kind(self):
        for text, index in UNSOUND:
            with self.subTest(text):
                sheet = read_sheet(text)
                self.assertIs(is_sound(sheet), False)
                self.assert_told(InvalidSheet, {"index": index}, kinds_in, sheet)
                self.assert_told(InvalidSheet, {"index": index}, Keeper, sheet)

    def test_names_alike_and_names_of_no_cell_ahead(self):
        for sheet, index in (
                ((("cell", "a", ONE), ("cell", "a", ONE)), 1), ((("input", "a", NUM, 1), ("cell", "a", ONE)), 1),
                ((("input", "a", NUM, 1), ("input", "a", NUM, 1)), 1),
                ((("cell", "a", A),), 0), ((("cell", "b", A), ("cell", "a", ONE)), 0),
                ((("cell", "a", ONE), ("cell", "b", ("name", "c"))), 1),
                ((("cell", "f", ("fn", "x", NUM, A)), ("cell", "a", ONE)), 0),
                ((("cell", "a", ("let", "a", A, ONE)),), 0)):
            with self.subTest(sheet):
                self.assertIs(is_sound(sheet), False)
                self.assert_told(InvalidSheet, {"index": index}, shown, sheet)

    def test_the_order_of_cells_matters(self):
        self.assertIs(is_sound(SHOP[::-1]), False)
        self.assertIs(is_sound(SHOP[3:] + SHOP[:3]), False)
        self.assertIs(is_sound((SHOP[2], SHOP[1], SHOP[0]) + SHOP[3:]), True)
        for at in range(3, len(SHOP)):
            self.assertIs(is_sound(SHOP[:at]), True)

    def test_more_than_forty_cells(self):
        for many in (41, 60):
            self.assertIs(is_sound(cells_of(many)), False)
            self.assert_told(InvalidSheet, {"index": None}, kinds_in, cells_of(many))
        self.assert_told(InvalidSheet, {"index": None}, kinds_in, (None,) * 41)

    def test_what_is_no_cell(self):
        for cell in (
                None, (), ("cell",), ("cell", "a"), ("cell", "a", ONE, ONE), ["cell", "a", ONE], ("Cell", "a", ONE),
                ("input", "a", ONE), ("cell", "a", "x"), ("cell", "a", ("plus", ONE)),
                ("cell", "a'", ONE), ("cell", "A", ONE), ("cell", "abcdefghi", ONE), ("cell", "fn", ONE),
                ("cell", 1, ONE), ("cell", ["a"], ONE), ("cell", None, ONE), ("cell", Stubborn(), ONE),
                ("cell", "a", ("name", "a'")), ("cell", "a", ("fn", "x'", NUM, ONE)),
                ("cell", "a", nested(13, ("minus",), ONE, ())), ("cell", "a", ("zero", nested(7))),
                ("input", "a", NUM), ("input", "a", NUM, 1, 1), ("input", "a", NUM, True), ("input", "a", NUM, ()),
                ("input", "a", NUM, "1"), ("input", "a", STEP, 1), ("input", "a", ("int",), 1),
                ("input", "a", BAG, ((2, 1), (1, 1))), ("input", "a", ("pair", NUM, STEP), 1),
                ("input", "a'", NUM, 1), ("input", "bag", NUM, 1), ("input", "a", "num", 1),
                ("input", "a", None, None),
                ("input", "a", nested(7), nested(7, ("pair",), 1, (1,))), ("cell", "a", NUM, 1),
                (Stubborn(), "a", ONE), (Stubborn(), "a", NUM, 1), "cell", ("cell", "a", None), (["cell"], "a", ONE)):
            for sheet, index in (((cell,), 0), ((("cell", "b", ONE), cell), 1), ((cell, None), 0), ((cell, cell), 0)):
                with self.subTest(cell):
                    self.assertIs(is_sound(sheet), False)
                    self.assert_told(InvalidSheet, {"index": index}, kinds_in, sheet)

    def test_what_is_just_a_cell(self):
        deep = ("input", "a", nested(6), nested(6, ("pair",), 1, (1,)))
        self.assertIs(is_sound((deep, ("cell", "b", nested(12, ("minus",), ONE, ())),
                ("cell", "abcdefgh", ("zero", nested(6))))), True)

    def test_odd_things(self):
        for thing in odd_things():
            if not isinstance(thing, tuple):
                self.assertIs(is_sound(thing), False)
                self.assert_told(InvalidSheet, {"index": None}, kinds_in, thing)
            elif thing != ():
                self.assertIs(is_sound(thing), False)
                self.assert_told(InvalidSheet, {"index": 0}, kinds_in, thing)

    def test_the_first_wrong_cell_is_told(self):
        right, doubled = ("cell", "b", ONE), ("cell", "b", ("call", ONE, ONE))
        self.assert_told(InvalidSheet, {"index": 1}, shown, (right, doubled, None))
        self.assert_told(InvalidSheet, {"index": 1}, shown, (right, ("cell", "c", ("call", ONE, ONE)), right))
        self.assert_told(InvalidSheet, {"index": 2}, shown, (right, ("cell", "c", ONE), right, None))


class KindsInTest(Case):

    def test_kinds(self):
        self.assertEqual(kinds_in(SHOP), (
            ("price", NUM), ("sold", BAG), ("rebate", SIDES), ("by", STEP), ("sum", NUM), ("least", NUM),
            ("due", NUM), ("often", NUM), ("many", NUM), ("asks", ("pair", STEP, NUM))))
        self.assertEqual(kinds_in(sheet=()), ())

    def test_the_kind_of_each_word(self):
        for text, kind in (
                ("1", NUM), ("()", UNIT), ("fn x: num. x", STEP),
                ("fn x: unit. (x, x)", ("fun", UNIT, ("pair", UNIT, UNIT))), ("(fn x: num. x)(1)", NUM),
                ("let x = () in x", UNIT), ("let i = i in i", BAG),
                ("i + i", BAG), ("-i", BAG), ("-(i, 1)", ("pair", BAG, NUM)), ("1 * 2", NUM),
                ("zero((num, bag unit))", ("pair", NUM, ("bag", UNIT))), ("(1, ())", ("pair", NUM, UNIT)),
                ("first((1, ()))", NUM), ("second((1, ()))", UNIT), ("left(1, unit)", SIDES),
                ("right(num, ())", SIDES), ("left(1, num -> num)", ("either", NUM, STEP)),
                ("case left(i, unit) {x. x; y. i}", BAG), ("1 < 2", ("either", UNIT, UNIT)),
                ("1 == 2", ("either", UNIT, UNIT)), ("one((1, 2))", ("bag", PAIR)),
                ("total(fn x: num. one(()), i)", ("bag", UNIT)),
                ("total(fn x: num. (x, i), i)", ("pair", NUM, BAG)), ("count(i, 1)", NUM), ("support(i)", BAG),
                ("fn i: num. i", STEP), ("(fn x: num. fn y: unit. x)(1)", ("fun", UNIT, NUM))):
            with self.subTest(text):
                sheet = read_sheet(f"input i: bag num = {{1: 1}}; cell c = {text};")
                self.assertEqual(kinds_in(sheet), (("i", BAG), ("c", kind)))


class ShownTest(Case):

    def test_data_alone_in_order(self):
        self.assertEqual(shown(SHOP), (
            ("price", 3), ("sold", ((1, 2), (5, 1))), ("rebate", ("right", ())), ("sum", 21), ("least", 0),
            ("due", 21), ("often", 1), ("many", 3)))
        self.assertEqual(shown(sheet=()), ())
        self.assertEqual(shown((("cell", "f", ("fn", "x", NUM, X)),)), ())

    def test_the_meaning_of_each_word(self):
        for text, value in (
                ("3", 3), ("()", ()), ("n", 4), ("i", ((1, 2), (3, -1))), ("(fn x: num. x + n)(1)", 5),
                ("let n = n + 1 in n + n", 10), ("let x = i in n", 4), ("n + -1", 3), ("i + i", ((1, 4), (3, -2))),
                ("i + -one(1)", ((1, 1), (3, -1))), ("i + -i", ()), ("(i, n) + (one(3), 1)", ("pair", ((1, 2),), 5)),
                ("-i", ((1, -2), (3, 1))), ("-(n, i)", ("pair", -4, ((1, -2), (3, 1)))), ("n * -3", -12),
                ("zero((num, (bag unit, num)))", ("pair", 0, ("pair", (), 0))), ("(n, ())", ("pair", 4, ())),
                ("first((n, ()))", 4), ("second((n, ()))", ()), ("left(n, unit)", ("left", 4)),
                ("right(unit, n)", ("right", 4)),
                ("case left(n, unit) {x. x + 1; y. 0}", 5), ("case right(num, ()) {x. x + 1; y. n}", 4),
                ("n < 4", ("right", ())), ("n < 5", ("left", ())), ("n <= 4", ("left", ())),
                ("n <= 3", ("right", ())),
                ("n == 4", ("left", ())), ("n == 5", ("right", ())), ("one(n)", ((4, 1),)),
                ("one((n, ()))", ((("pair", 4, ()), 1),)), ("total(fn x: num. x * n, i)", -4),
                ("total(fn x: num. one(x * n), i)", ((4, 2), (12, -1))),
                ("total(fn x: num. one(()), i)", (((), 1),)),
                ("total(fn x: num. (x, one(x)), i)", ("pair", -1, ((1, 2), (3, -1)))),
                ("total(fn x: num. i, i)", ((1, 2), (3, -1))), ("total(fn x: num. 1, zero(bag num))", 0),
                ("total(fn x: num. (one(x), 1), zero(bag num))", ("pair", (), 0)), ("count(i, 1)", 2),
                ("count(i, 3)", -1), ("count(i, n)", 0), ("support(i)", ((1, 1),)), ("support(-i)", ((3, 1),)),
                ("support(zero(bag num))", ()),
                ("(fn f: num -> num. f(f(n)))(fn x: num. x * x)", 256),
                ("let f = fn x: num. fn y: num. x + -y in f(n)(1)", 3), ("(fn n: num. fn x: num. n + x)(1)(n)", 5),
                ("let f = let n = 1 in fn x: num. x + n in let n = 10 in f(n)", 11)):
            with self.subTest(text):
                sheet = read_sheet(f"input n: num = 4; input i: bag num = {{1: 2, 3: -1}}; cell c = {text};")
                self.assert_same(shown(sheet)[2:], (("c", value),))

    def test_cells_ahead(self):
        sheet = read_sheet("""
            cell a = 2;
            cell f = fn x: num. x * a;
            cell p = (f, a);
            cell b = first(p)(second(p) + 1);
            cell g = fn h: num -> num. h(h(b));
            cell c = g(f);""")
        self.assertEqual(shown(sheet), (("a", 2), ("b", 6), ("c", 24)))


class HangsOnTest(Case):

    def test_inputs_in_order(self):
        for name, inputs in (
                ("price", ("price",)), ("sold", ("sold",)), ("rebate", ("rebate",)), ("by", ("price",)),
                ("sum", ("price", "sold")), ("least", ("rebate",)), ("due", ("price", "sold", "rebate")),
                ("often", ("sold",)), ("many", ("sold",)), ("asks", ("price", "sold"))):
            with self.subTest(name):
                self.assertEqual(hangs_on(SHOP, name), inputs)
                self.assertEqual(hangs_on(name=name, sheet=SHOP), inputs)

    def test_the_order_is_that_of_the_cells(self):
        sheet = read_sheet("""
            input z: num = 1; input b: num = 1; cell k = 1; input a: num = 1;
            cell s = a + b + z; cell t = k; cell u = let a = b in a; cell v = fn z: num. z;""")
        self.assertEqual([hangs_on(sheet, name) for name in ("s", "t", "k", "u", "v")],
                [("z", "b", "a"), (), (), ("b",), ()])

    def test_unknown_names(self):
        for thing in odd_things() + ["", "x", "prices", "price'", "price ", "cell", ("price",), ["price"],
                {"price": 1}, 0]:
            self.assert_told(UnknownName, {"given": thing}, hangs_on, SHOP, thing)
            self.assert_told(UnknownName, {"given": thing}, hangs_on, name=thing, sheet=SHOP)
        # A name that is bound in a cell's term is no cell's name.
        self.assert_told(UnknownName, {"given": "x"}, hangs_on, SHOP, "x")


class EditsTest(Case):

    def test_edits(self):
        for edit in (
                (), (("price", 1),), (("price", 0),), (("sold", ()),), (("sold", ((1, -2), (7, 1))),),
                (("rebate", ("left", ("right", ()))),), (("rebate", ("right", ("left", 5))),),
                (("rebate", ("right", ("right", ()))),),
                (("price", 1), ("sold", ())), (("price", -3), ("rebate", ("right", ("left", 5)))),
                (("price", 1), ("sold", ((5, 1),)), ("rebate", ("right", ("right", ()))))):
            with self.subTest(edit):
                self.assertIs(is_edit(SHOP, edit), True)
                self.assertIs(is_edit(value=edit, sheet=SHOP), True)

    def wrong_edits(self):
        right, pair = ("price", 1), ("rebate", ("right", ("left", 5)))
        return (
            (None, None), (0, None), ("", None), ([], None), ([right], None), ({"price": 1}, None), ({}, None),
            (True, None), (Stubborn(), None), ((right, right), 1), ((("sold", ()), right), 1),
            ((pair, ("sold", ())), 1),
            ((right, pair, ("sold", ())), 2), (right, 0), ((["price", 1],), 0), ((("price",),), 0),
            ((("price", 1, 1),), 0), ((("price", True),), 0), ((("price", ()),), 0), ((("price", "1"),), 0),
            ((("price", None),), 0),
            ((("by", 1),), 0), ((("sum", 1),), 0), ((("prices", 1),), 0), ((("", 1),), 0), ((("price'", 1),), 0),
            (((None, 1),), 0), (((["price"], 1),), 0), (((Stubborn(), 1),), 0), ((right, None), 1),
            ((right, ("sum", 1)), 1),
            ((right, ("sold", ((5, 0),))), 1), ((right, ("sold", ((2, 1), (1, 1)))), 1), ((right, ("sold", [])), 1),
            ((right, ("sold", 1)), 1), ((("rebate", ("left", ("left", 1))),), 0),
            ((("rebate", ("left", ("right", 1))),), 0),
            ((("rebate", ("left", 1)),), 0), ((("rebate", ("right", 1)),), 0), ((("rebate", ("right", ())),), 0),
            ((("rebate", ()),), 0), ((right, ("sold", ()), ("rebate", ("left", ("left", 1)))), 2),
            ((("sum", 1), None), 0),
        )

    def test_what_is_no_edit(self):
        for value, index in self.wrong_edits():
            with self.subTest(value):
                self.assertIs(is_edit(SHOP, value), False)
                for call in (edited, back_edit, looked_at):
                    self.assert_told(InvalidEdit, {"index": index}, call, SHOP, value)
                    self.assert_told(InvalidEdit, {"index": index}, call, edit=value, sheet=SHOP)
                self.assert_told(InvalidEdit, {"index": index}, joined_edits, SHOP, value, None)
                self.assert_told(InvalidEdit, {"index": index}, joined_edits, SHOP, (), value)
                self.assert_told(InvalidEdit, {"index": index}, joined_edits, two=value, one=(), sheet=SHOP)
                keeper = Keeper(SHOP)
                self.assert_told(InvalidEdit, {"index": index}, keeper.edit, value)
                self.assert_told(InvalidEdit, {"index": index}, keeper.edit, edit=value)

    def test_odd_things(self):
        for thing in [thing for thing in odd_things() if type(thing) is not int]:
            for value, index in ((thing, 0 if isinstance(thing, tuple) else None), ((thing,), 0),
                    ((("price", thing),), 0),
                                 ((("price", 1), thing), 1), (((thing, 1),), 0)):
                with self.subTest(value):
                    self.assertIs(is_edit(SHOP, value), False)
                    self.assert_told(InvalidEdit, {"index": index}, edited, SHOP, value)

    def test_edited(self):
        edit = (("price", 1), ("sold", ((1, -2), (7, 1))), ("rebate", ("right", ("left", 5))))
        expected = (("input", "price", NUM, 4), ("input", "sold", BAG, ((5, 1), (7, 1))),
                ("input", "rebate", SIDES, ("left", 5))) + SHOP[3:]
        self.assertEqual(edited(SHOP, edit), expected)
        self.assertEqual(edited(edit=edit, sheet=SHOP), expected)
        self.assertEqual(edited(SHOP, ()), SHOP)
        self.assertEqual(edited(SHOP, edit[1:2]), SHOP[:1] + expected[1:2] + SHOP[2:])

    def test_each_kind_of_change(self):
        for kind, value, change, led, back in (
                ("num", "3", "-5", "-2", "5"), ("unit", "()", "()", "()", "()"),
                ("bag num", "{1: 2}", "{1: -2, 3: 1}", "{3: 1}", "{1: 2, 3: -1}"),
                ("(num, bag unit)", "(1, {})", "(2, {(): 1})", "(3, {(): 1})", "(-2, {(): -1})"),
                ("num | unit", "left(3)", "left(left(4))", "left(7)", "left(left(-4))"),
                ("num | unit", "left(3)", "right(left(4))", "left(4)", "left(left(-1))"),
                ("num | unit", "left(3)", "right(right(()))", "right(())", "right(left(3))"),
                ("num | unit", "right(())", "left(right(()))", "right(())", "left(right(()))"),
                ("num | unit", "right(())", "right(left(1))", "left(1)", "right(right(()))"),
                ("num | num", "left(1)", "right(right(1))", "right(1)", "right(left(1))"),
                ("(num | unit, num)", "(left(1), 1)", "(left(left(1)), 1)", "(left(2), 2)", "(left(left(-1)), -1)")):
            with self.subTest(kind, value=value, change=change):
                sheet = read_sheet(f"input i: {kind} = {value};")
                word = sheet[0][2]
                told = read_value(self.changes_of(word), change)
                self.assertEqual(edited(sheet, (("i", told),)), read_sheet(f"input i: {kind} = {led};"))
                self.assertEqual(back_edit(sheet, (("i", told),)), (("i", read_value(self.changes_of(word), back)),))

    def changes_of(self, kind):
        if kind[0] == "pair":
            return ("pair", self.changes_of(kind[1]), self.changes_of(kind[2]))
        if kind[0] == "either":
            return ("either", ("either", self.changes_of(kind[1]), self.changes_of(kind[2])), kind)
        return kind

    def test_changes_that_do_not_fit(self):
        for kind, value, change in (
                ("num | unit", "left(3)", "left(right(()))"), ("num | unit", "right(())", "left(left(1))"),
                ("(num, num | unit)", "(1, left(3))", "(1, left(right(())))"),
                ("(num | unit) | num", "left(left(1))", "left(left(left(right(()))))"),
                ("(num | unit) | num", "left(left(1))", "left(right(1))"),
                ("(num | unit, num)", "(right(()), 1)", "(left(left(1)), 1)")):
            with self.subTest(kind, value=value, change=change):
                sheet = read_sheet(f"input i: {kind} = {value};")
                told = read_value(self.changes_of(sheet[0][2]), change)
                self.assertIs(is_edit(sheet, (("i", told),)), False)

    def test_back_edits(self):
        edit = (("price", 1), ("rebate", ("right", ("left", 5))))
        self.assertEqual(back_edit(SHOP, edit), (("price", -1), ("rebate", ("right", ("right", ())))))
        self.assertEqual(back_edit(edit=edit, sheet=SHOP), back_edit(SHOP, edit))
        self.assertEqual(edited(edited(SHOP, edit), back_edit(SHOP, edit)), SHOP)
        self.assertEqual(back_edit(SHOP, ()), ())
        # What changes nothing is named, too, by the still change.
        self.assertEqual(back_edit(SHOP, (("price", 0), ("rebate", ("right", ("right", ()))))),
                (("price", 0), ("rebate", ("left", ("right", ())))))

    def test_joined_edits(self):
        to_five, up, away = ("right", ("left", 5)), ("left", ("left", 2)), ("right", ("right", ()))
        for one, two, both in (
                ((), (), ()), ((("price", 1),), (), (("price", 1),)), ((), (("price", 1),), (("price", 1),)),
                ((("price", 1),), (("price", 2),), (("price", 3),)),
                ((("price", 1),), (("price", -1),), (("price", 0),)),
                ((("sold", ((5, 1),)),), (("price", 1),), (("price", 1), ("sold", ((5, 1),)))),
                ((("sold", ((5, 1),)),), (("sold", ((5, -1), (6, 1))),), (("sold", ((6, 1),)),)),
                ((("rebate", to_five),), (("rebate", up),), (("rebate", ("right", ("left", 7))),)),
                ((("rebate", to_five),), (("rebate", away),), (("rebate", away),)),
                ((("rebate", ("left", ("right", ()))),), (("rebate", to_five),), (("rebate", to_five),)),
                ((("rebate", ("left", ("right", ()))),), (("rebate", ("left", ("right", ()))),),
                    (("rebate", ("left", ("right", ()))),)),
                ((("rebate", away),), (("rebate", ("left", ("right", ()))),), (("rebate", away),)),
                ((("price", 1), ("rebate", to_five)), (("sold", ()), ("rebate", up)),
                    (("price", 1), ("sold", ()), ("rebate", ("right", ("left", 7)))))):
            with self.subTest(one, two=two):
                self.assertEqual(joined_edits(SHOP, one, two), both)
                self.assertEqual(joined_edits(two=two, sheet=SHOP, one=one), both)
                self.assertEqual(edited(SHOP, both), edited(edited(SHOP, one), two))

    def test_joined_on_one_side(self):
        sheet = read_sheet("input i: (num, num) | bag num = left((1, 2));")
        one, two = ("left", ("left", ("pair", 1, 0))), ("left", ("left", ("pair", 2, -5)))
        self.assertEqual(joined_edits(sheet, (("i", one),), (("i", two),)),
                (("i", ("left", ("left", ("pair", 3, -5)))),))
        new = ("right", ("right", ((1, 1),)))
        self.assertEqual(joined_edits(sheet, (("i", new),), (("i", ("left", ("right", ((1, 1),)))),)),
                (("i", ("right", ("right", ((1, 2),)))),))

    def test_the_second_one_is_of_the_sheet_edited_by_the_first_one(self):
        to_five, up = (("rebate", ("right", ("left", 5))),), (("rebate", ("left", ("left", 2))),)
        self.assertIs(is_edit(SHOP, up), False)
        self.assertIs(is_edit(edited(SHOP, to_five), up), True)
        self.assert_told(InvalidEdit, {"index": 0}, joined_edits, SHOP, up, to_five)
        self.assert_told(InvalidEdit, {"index": 0}, joined_edits, SHOP, to_five,
                (("rebate", ("left", ("right", ()))),))
        self.assert_told(InvalidEdit, {"index": 1}, joined_edits, SHOP, to_five,
                (("price", 1), ("rebate", ("left", ("right", ())))))

    def test_looked_at(self):
        for edit, looked in (
                ((), ()), ((("price", 0),), ()), ((("sold", ()), ("rebate", ("right", ("right", ())))), ()),
                ((("rebate", ("left", ("right", ()))),), ()), ((("price", 1),), ("by", "sum", "due", "asks")),
                ((("sold", ((5, 1),)),), ("sum", "due", "often", "many", "asks")),
                ((("rebate", ("right", ("left", 0))),), ("least",)),
                ((("rebate", ("right", ("left", 1))),), ("least", "due")),
                # Two things of 3 for six of 1 show the same sum; those who name it are not looked at for it.
                ((("sold", ((2, 1), (1, -2))),), ("sum", "often", "many", "asks")),
                ((("sold", ((2, 1), (1, -1), (5, -1))),), ("sum", "due", "often", "many", "asks"))):
            with self.subTest(edit):
                edit = tuple((name, tuple(sorted(change)) if name == "sold" else change) for name, change in edit)
                self.assertEqual(looked_at(SHOP, edit), looked)
                self.assertEqual(looked_at(edit=edit, sheet=SHOP), looked)

    def test_a_function_that_is_looked_at_is_changed(self):
        # f tells the same whatever n is, but it names it; what names f is looked at, too.
        sheet = read_sheet("""
            input n: num = 1;
            cell f = fn x: num. x + n + -n;
            cell a = f(3); cell b = a; cell g = fn x: num. f(x); cell c = (g, a);""")
        self.assertEqual(looked_at(sheet, (("n", 1),)), ("f", "a", "g", "c"))
        self.assertEqual(looked_at(sheet, (("n", 0),)), ())

    def test_bound_names_are_not_named(self):
        sheet = read_sheet("""
            input n: num = 1;
            cell f = fn n: num. n; cell l = let n = 2 in n;
            cell c = case left(1, unit) {n. n; m. 2}; cell o = let n = n in n;""")
        self.assertEqual(looked_at(sheet, (("n", 1),)), ("o",))


class OrderOfErrorsTest(Case):

    def test_the_sheet_is_told_first(self):
        for sheet, index in ((None, None), ((None,), 0), (SHOP + (None,), len(SHOP)), ([], None)):
            for call, others in ((hangs_on, ("no name",)), (is_edit, (None,)), (edited, (None,)),
                    (back_edit, (None,)), (looked_at, (None,)), (joined_edits, (None, None)), (kinds_in, ()),
                    (shown, ()), (Keeper, ())):
                self.assert_told(InvalidSheet, {"index": index}, call, sheet, *others)
        self.assert_told(InvalidSheet, {"index": None}, hangs_on, name="x", sheet=None)
        self.assert_told(InvalidSheet, {"index": None}, joined_edits, two=None, one=None, sheet=None)
        self.assert_told(InvalidSheet, {"index": None}, Keeper, sheet=None)

    def test_one_is_told_ahead_of_two(self):
        self.assert_told(InvalidEdit, {"index": None}, joined_edits, SHOP, None, ((),))
        self.assert_told(InvalidEdit, {"index": 0}, joined_edits, SHOP, ((),), None)
        self.assert_told(InvalidEdit, {"index": 0}, joined_edits, two=None, one=((),), sheet=SHOP)
        self.assert_told(InvalidEdit, {"index": None}, joined_edits, SHOP, (), None)

    def test_what_was_passed_is_as_it_was(self):
        things = [[SHOP], ["cell", "a", ONE], [("price", 1)], {"price": 1}, (["price", 1],), ("price", [1])]
        held = copy.deepcopy(things)
        for thing in things:
            for call in (is_sound, lambda thing: is_edit(SHOP, thing)):
                self.assertIs(call(thing), False)
            for call in (kinds_in, lambda thing: edited(SHOP, thing), lambda thing: joined_edits(SHOP, (), thing),
                    lambda thing: hangs_on(SHOP, thing)):
                self.assertRaises(ValueError, call, thing)
        self.assertEqual(things, held)

    def test_a_second_call_gives_the_same(self):
        edit = (("price", 1),)
        for call in (lambda: kinds_in(SHOP), lambda: shown(SHOP), lambda: hangs_on(SHOP, "due"),
                lambda: edited(SHOP, edit), lambda: back_edit(SHOP, edit), lambda: looked_at(SHOP, edit),
                lambda: joined_edits(SHOP, edit, edit)):
            self.assert_same(call(), call())


if __name__ == "__main__":
    unittest.main()
