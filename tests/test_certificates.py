"""certificates.py: each claim is the one due, and is accepted with its paper; errors in their order."""

import copy
import unittest

from changewise.certificates import (
    certify_both, certify_change, certify_derivative, certify_led, certify_meaning, certify_no_sum, certify_shown,
    certify_unlike,
)
from changewise.changes import led, nothing
from changewise.checker import accepts
from changewise.deriving import adds, derivative, kept_change
from changewise.errors import (
    InvalidChange, InvalidChanges, InvalidChanging, InvalidContext, InvalidEdits, InvalidKind, InvalidNames, InvalidSheet,
    InvalidTerm, InvalidValue, InvalidValues, NotData, NotFitting, UnknownName, WrongTerm,
)
from changewise.meaning import applied
from changewise.sheets import Keeper
from changewise.terms import is_written
from changewise.text import read_sheet, read_term
from tests import oracle
from tests.asking import (
    NO_TUPLES, AskingCase, given, indexed, wrong_changes, wrong_changing, wrong_contexts, wrong_names, wrong_values,
    wrong_written,
)
from tests.cases import Stubborn, odd_things
from tests.drawing import Drawer
from tests.test_changes import NO_CHANGES, NO_DATA, NO_VALUES

NUM, UNIT = ("num",), ("unit",)
BAG, STEP, SIDES = ("bag", NUM), ("fun", NUM, NUM), ("either", NUM, UNIT)
X = ("name", "x")
TWICE, SQUARE = read_term("fn x: num. x + x"), read_term("fn x: num. x * x")
LEFT, UP, NEW, STAY, OTHER = (("left", 3), ("left", ("left", 4)), ("right", ("left", 7)), ("left", ("right", ())),
                              ("right", ("right", ())))
SHEET = read_sheet("input a: num = 3; input b: bag num = {1: 2, 5: 1}; input e: num | unit = left(3);"
                   "cell by = fn x: num. x * a; cell s = total(by, b); cell t = case e {x. left(x + a, unit); u. e};")
EDITS = ((("a", 1),), (("b", ((5, 1),)), ("e", ("right", ("right", ())))), (), (("a", -4), ("e", NEW)))
ADDER, SUPPORT = read_term("fn b: bag num. total(fn x: num. x, b)"), read_term("fn b: bag num. support(b)")
NAMES = (("x", NUM, 1), ("y", BAG, ((1, 1),)), ("z", SIDES, ("left", 3)))
CONTEXT = (("x", NUM), ("y", BAG), ("z", SIDES), ("z'", NUM), ("x'", UNIT))


class CertifyTest(AskingCase):

    def check(self, certificate, claim, paper=()):
        self.assert_same(certificate, (claim, paper))
        self.assertIs(accepts(*certificate), True)

    def test_led(self):
        for change, new in ((UP, ("left", 7)), (NEW, ("left", 7)), (OTHER, ("right", ()))):
            self.check(certify_led(SIDES, LEFT, change), ("led", SIDES, LEFT, change, new))
            self.check(certify_led(change=change, value=LEFT, kind=SIDES), ("led", SIDES, LEFT, change, new))
        self.check(certify_led(BAG, ((1, 1),), ((1, -1),)), ("led", BAG, ((1, 1),), ((1, -1),), ()))

    def test_both(self):
        for one, two, word in ((UP, NEW, "alike"), (UP, UP, "alike"), (UP, OTHER, "unlike"), (OTHER, NEW, "unlike")):
            self.check(certify_both(SIDES, LEFT, one, two), (word, SIDES, LEFT, one, two))
            self.check(certify_both(two=two, one=one, value=LEFT, kind=SIDES), (word, SIDES, LEFT, one, two))

    def test_meaning(self):
        for value, word in ((8, "means"), (9, "means not"), (-8, "means not")):
            self.check(certify_meaning(TWICE, (4,), value), (word, TWICE, (4,), value))
            self.check(certify_meaning(value=value, values=(4,), term=TWICE), (word, TWICE, (4,), value))
        self.check(certify_meaning(read_term("()"), (), ()), ("means", ("unit",), (), ()))

    def test_unlike(self):
        self.check(certify_unlike(TWICE, SQUARE, (3,)), ("unlike functions", TWICE, SQUARE), (3,))
        self.check(certify_unlike(values=(3,), other=SQUARE, term=TWICE), ("unlike functions", TWICE, SQUARE), (3,))
        self.check(certify_unlike(("number", 1), ("number", 2), ()), ("unlike functions", ("number", 1), ("number", 2)))
        for values in ((2,), (0,)):
            self.assertIsNone(certify_unlike(TWICE, SQUARE, values))
        # Of unlike kinds: whatever the values are.
        for values in ((3,), (), None, (True,), (1,) * 9):
            self.assertIsNone(certify_unlike(TWICE, ("number", 1), values))
            self.assertIsNone(certify_unlike(read_term("fn x: num. ()"), TWICE, values))

    def test_change(self):
        changes, term = (("x", 1), ("z", NEW)), read_term("case z {v. v * x; u. x}")
        change = kept_change(NAMES, changes, term)
        self.check(certify_change(NAMES, changes, term), ("leads", NAMES, changes, term, change))
        self.check(certify_change(written=term, changes=changes, names=NAMES), ("leads", NAMES, changes, term, change))
        self.assertEqual(change, 11)

    def test_derivative(self):
        for text in ("x * x", "fn v: num. v * x", "(x, y)", "case z {v. v; u. x}", "z"):
            for changing in ((), ("x",), ("x", "z"), ("x", "y", "z")):
                term = read_term(text)
                claim = ("derivative", CONTEXT, changing, term, derivative(CONTEXT, changing, term))
                self.check(certify_derivative(CONTEXT, changing, term), claim)
                self.check(certify_derivative(written=term, changing=changing, context=CONTEXT), claim)

    def test_no_sum(self):
        one = ((1, 1),)
        self.check(certify_no_sum(SUPPORT, one, one), ("adds not", SUPPORT), (one, one))
        self.check(certify_no_sum(two=one, one=one, written=SUPPORT), ("adds not", SUPPORT), (one, one))
        self.assertIsNone(certify_no_sum(ADDER, one, one))
        self.assertIsNone(certify_no_sum(SUPPORT, one, ()))
        self.assertIsNone(certify_no_sum(SUPPORT, one, ((2, 1),)))

    def test_shown(self):
        self.check(certify_shown(SHEET, EDITS, "s"), ("shown", SHEET, EDITS, "s", 0), ("kept", (7, 20, 0, -48)))
        self.check(certify_shown(name="s", edits=EDITS, sheet=SHEET), ("shown", SHEET, EDITS, "s", 0),
                   ("kept", (7, 20, 0, -48)))
        self.check(certify_shown(SHEET, EDITS, "t"), ("shown", SHEET, EDITS, "t", ("left", 7)), (
            "kept", (("left", ("left", 1)), ("right", ("right", ())), ("left", ("right", ())), ("right", ("left", 7)))))
        self.check(certify_shown(SHEET, (), "a"), ("shown", SHEET, (), "a", 3), ("kept", ()))
        # Where a keeper tells none, the still change: at left 3 it is told on the left.
        self.check(certify_shown(SHEET, ((("a", 1),), (("e", ("right", LEFT)),)), "e"), (
            "shown", SHEET, ((("a", 1),), (("e", ("right", LEFT)),)), "e", LEFT), ("kept", (("left", ("left", 0)),) * 2))

    def test_forty_edits(self):
        edits = ((("a", 1),),) * 40
        self.check(certify_shown(SHEET, edits, "a"), ("shown", SHEET, edits, "a", 43), ("kept", (1,) * 40))
        self.assert_told(InvalidEdits, {"index": None}, certify_shown, SHEET, edits + ((),), "a")


class DrawnTest(AskingCase):

    def written(self, drawer, context, kind):
        term = ("number", 10 ** 500)
        while not is_written(term):
            term = drawer.term(context, kind, drawer.one_of(3, 4, 5))
        return term

    def test_of_changes(self):
        for seed in range(300):
            drawer = Drawer(seed)
            kind = drawer.data_kind(3)
            value = drawer.value(kind)
            one, two = drawer.fitting(kind, value), drawer.fitting(kind, value)
            found = certify_led(kind, value, one)
            self.assert_same(found, (("led", kind, value, one, led(kind, value, one)), ()))
            self.assertIs(accepts(*found), True)
            word = "alike" if led(kind, value, one) == led(kind, value, two) else "unlike"
            found = certify_both(kind, value, one, two)
            self.assert_same(found, ((word, kind, value, one, two), ()))
            self.assertIs(accepts(*found), True)

    def test_of_terms(self):
        unlike, no_sums = 0, 0
        for seed in range(400):
            drawer = Drawer(seed)
            context = tuple((name, drawer.data_kind(2)) for name in ("m", "n", "o"))
            changing = tuple(name for name, _ in context if drawer.chance(60))
            kind, told = drawer.data_kind(2), drawer.data_kind(2)
            term = self.written(drawer, context, kind)
            names = tuple((name, each, drawer.value(each)) for name, each in context)
            changes = tuple((name, drawer.fitting(each, value)) for name, each, value in names if name in changing)
            certificates = [certify_derivative(context, changing, term), certify_change(names, changes, term)]
            self.assertEqual(certificates[1][0][4], kept_change(names, changes, term))
            one, two = [self.written(drawer, (), ("fun", told, kind)) for _ in range(2)]
            values, value = (drawer.value(told),), drawer.value(kind)
            certificates.append(certify_meaning(one, values, value))
            self.assertEqual(certificates[2][0][0], "means" if applied(one, values) == value else "means not")
            found = certify_unlike(one, two, values)
            self.assertEqual(found is None, applied(one, values) == applied(two, values))
            unlike += found is not None
            bags = ("bag", drawer.plain_kind(2))
            body = self.written(drawer, (("b", bags),), drawer.group_kind(2))
            summed = ("fn", "b", bags, body)
            if is_written(summed):
                pair = (drawer.value(bags), drawer.value(bags))
                other = certify_no_sum(summed, *pair)
                self.assertEqual(other is None, adds(summed, *pair))
                no_sums += other is not None
                certificates.append(other)
            for certificate in certificates + [found]:
                if certificate is not None:
                    self.assertIs(accepts(*certificate), True)
        self.assertGreater(unlike, 50)

    def test_of_sheets(self):
        for seed in range(120):
            drawer = Drawer(seed)
            sheet = drawer.sheet(2, 4, 4)
            keeper, edits, told = Keeper(sheet), (), []
            for _ in range(drawer.random.randrange(4)):
                edit, was = drawer.edit(keeper.sheet()), dict(keeper.shown())
                told.append((was, dict(keeper.edit(edit))))
                edits += (edit,)
            kinds = oracle.kinds_of_sheet(sheet)
            for name, value in keeper.shown():
                changes = tuple(each[name] if name in each else nothing(kinds[name], was[name]) for was, each in told)
                found = certify_shown(sheet, edits, name)
                with self.subTest(seed, name=name):
                    self.assert_same(found, (("shown", sheet, edits, name, value), ("kept", changes)))
                    self.assertIs(accepts(*found), True)
                    self.assertIs(accepts(found[0], ()), True)


class WrongArgumentsTest(AskingCase):

    def test_of_changes(self):
        values, changes = given(InvalidValue, NO_VALUES), given(InvalidChange, NO_CHANGES)
        unfit = [(STAY, NotFitting, {}), (("left", ("right", ())), NotFitting, {})]
        wrong = {"kind": given(InvalidKind, NO_DATA), "value": values, "change": changes + unfit, "one": changes + unfit,
                 "two": changes + unfit}
        self.check_wrong(certify_led, {"kind": SIDES, "value": LEFT, "change": UP}, wrong)
        self.check_wrong(certify_both, {"kind": SIDES, "value": LEFT, "one": UP, "two": NEW}, wrong)
        # ONE's errors come ahead of TWO's, NotFitting among them.
        self.assert_told(NotFitting, {}, certify_both, SIDES, LEFT, STAY, ("left", 3))

    def test_of_meanings(self):
        term = read_term("fn x: num. fn b: bag num. case left(x, unit) {v. left(v, unit); u. right(num, u)}")
        values = [each for each in wrong_values() if len(each[0] if isinstance(each[0], tuple) else ()) != 3]
        self.check_wrong(certify_meaning, {"term": term, "values": (1, ()), "value": ("left", 1)}, {
            "term": wrong_written(), "values": values, "value": given(InvalidValue, NO_VALUES)})
        self.check_wrong(certify_unlike, {"term": term, "other": term, "values": (1, ())}, {
            "term": wrong_written(), "other": wrong_written(), "values": values})

    def test_of_derivatives(self):
        self.check_wrong(certify_change, {"names": NAMES, "changes": (("x", 1), ("y", ())), "written": X}, {
            "names": wrong_names(), "changes": wrong_changes(), "written": wrong_written()})
        self.check_wrong(certify_derivative, {"context": CONTEXT, "changing": ("x", "z"), "written": X}, {
            "context": wrong_contexts(), "changing": wrong_changing(), "written": wrong_written()})

    def test_of_sums(self):
        bags = [None, True, 1, [], [(1, 1)], ((1, 0),), ((2, 1), (1, 1)), ((True, 1),), (((), 1),), (1,), Stubborn()]
        self.check_wrong(certify_no_sum, {"written": SUPPORT, "one": ((1, 1),), "two": ((1, 1),)}, {
            "written": wrong_written(), "one": indexed(InvalidValues, [(bag, 0) for bag in bags]),
            "two": indexed(InvalidValues, [(bag, 1) for bag in bags])})

    def test_of_sheets(self):
        sheets = [(thing, None) for thing in NO_TUPLES] + [(SHEET * 7, None), (list(SHEET), None)]
        for thing in odd_things() + [("input", "z", STEP, TWICE), ("cell", "a", X), ("cell", "z", X), SHEET[0], list(SHEET[0]),
                                     ("cell", "z", ("minus", ("unit",))), ("cell", "z'", X), ("input", "z", NUM, True)]:
            sheets += [(SHEET + (thing,), 6), (SHEET[:1] + (thing, thing) + SHEET[1:], 1)]
        edits = [(thing, None) for thing in NO_TUPLES] + [(EDITS * 11, None), (list(EDITS), None)]
        for thing in odd_things() + [(("a", True),), (("b", ()), ("a", 1)), (("s", 1),), (("e", 1),), [("a", 1)], ("a", 1), ((),)]:
            edits += [((thing,), 0), (EDITS[:2] + (thing,), 2), (EDITS[:1] + (thing, thing), 1)]
        # On the left side a change is one of the sheet as it is by then.
        edits += [((EDITS[1], (("e", UP),)), 1), (((("e", OTHER),), (), (("e", UP),), ()), 2), ((1,), 0)]
        names = ["", "z", "as", "a'", ("a",), ["a"], None, 1, True, Stubborn()]
        self.check_wrong(certify_shown, {"sheet": SHEET, "edits": EDITS, "name": "s"}, {
            "sheet": indexed(InvalidSheet, sheets), "edits": indexed(InvalidEdits, edits), "name": given(UnknownName, names)})

    def test_what_is_told_last(self):
        self.assert_told(NotData, {"kind": STEP}, certify_shown, SHEET, EDITS, "by")
        self.assert_told(InvalidEdits, {"index": 0}, certify_shown, SHEET, (1,), "by")
        self.assert_told(NotFitting, {}, certify_led, SIDES, LEFT, STAY)
        self.assert_told(WrongTerm, {"place": (1,)}, certify_meaning, ("minus", ("unit",)), None, None)
        self.assert_told(InvalidValues, {"index": None}, certify_meaning, TWICE, None, None)
        self.assert_told(NotData, {"kind": STEP}, certify_meaning, TWICE, (), None)
        self.assert_told(InvalidValue, {"given": True}, certify_meaning, TWICE, (3,), True)
        self.assert_told(InvalidTerm, {"place": ()}, certify_unlike, ("minus", ("unit",)), None, None)
        self.assert_told(WrongTerm, {"place": (1,)}, certify_unlike, ("minus", ("unit",)), X, None)
        self.assert_told(WrongTerm, {"place": ()}, certify_unlike, TWICE, X, None)
        self.assert_told(InvalidValues, {"index": 0}, certify_unlike, TWICE, SQUARE, (True,))
        self.assert_told(NotData, {"kind": STEP}, certify_unlike, TWICE, SQUARE, ())
        self.assert_told(InvalidNames, {"index": None}, certify_change, None, None, None)
        self.assert_told(InvalidChanges, {"index": None}, certify_change, (), None, None)
        self.assert_told(WrongTerm, {"place": ()}, certify_change, (), (), X)
        self.assert_told(NotData, {"kind": STEP}, certify_change, (), (), TWICE)
        self.assert_told(InvalidContext, {"index": None}, certify_derivative, None, None, None)
        self.assert_told(InvalidChanging, {"index": None}, certify_derivative, (), None, None)
        self.assert_told(WrongTerm, {"place": ()}, certify_derivative, (), (), X)
        self.assert_told(WrongTerm, {"place": ()}, certify_no_sum, X, None, None)
        self.assert_told(NotData, {"kind": STEP}, certify_no_sum, TWICE, None, None)

    def test_nothing_passed_is_changed(self):
        things = [list(SHEET), [EDITS], ["fn", "x", NUM, X], [("x", NUM, 1)], [1]]
        held = copy.deepcopy(things)
        for call in (certify_led, certify_meaning, certify_unlike, certify_change, certify_derivative, certify_no_sum,
                     certify_shown):
            for thing in things:
                self.assertRaises(ValueError, call, thing, thing, thing)
        self.assertEqual(things, held)


if __name__ == "__main__":
    unittest.main()
