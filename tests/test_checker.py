"""The claims for the checker: what is accepted, with which paper, and that nothing else is."""

import copy
import unittest

from changewise.checker import accepts
from changewise.deriving import derivative, kept_change
from changewise.sheets import Keeper, shown
from changewise.terms import is_written
from changewise.text import read_sheet, read_term
from tests import oracle
from tests.cases import Case, Stubborn, nested, odd_things
from tests.drawing import Drawer
from tests.judge import PAIRS, judged
from tests.test_changes import bent

NUM, UNIT = ("num",), ("unit",)
BAG, STEP, SIDES = ("bag", NUM), ("fun", NUM, NUM), ("either", NUM, UNIT)
TWICE, SQUARE = read_term("fn x: num. x + x"), read_term("fn x: num. x * x")
LEFT, UP, NEW = ("left", 3), ("left", ("left", 4)), ("right", ("left", 7))
STAY, OTHER = ("left", ("right", ())), ("right", ("right", ()))
SHEET = read_sheet("input a: num = 3; input b: bag num = {1: 2, 5: 1}; input e: num | unit = left(3);"
                   "cell by = fn x: num. x * a; cell s = total(by, b); cell t = case e {x. left(x + a, unit); u. e};")
EDITS = ((("a", 1),), (("b", ((5, 1),)), ("e", ("right", ("right", ())))), (), (("a", -4), ("e", NEW)))
NAMES = (("e", SIDES, LEFT), ("n", NUM, 3))
CONTEXT = tuple(row[:2] for row in NAMES)
PRODUCT = read_term("case e {x. x * n; u. n}")
WRONG_PRODUCT = read_term("case e {x. n'; u. n'}")
ADDER, SUPPORT = read_term("fn b: bag num. total(fn x: num. x, b)"), read_term("fn b: bag num. support(b)")


def kept(name):
    """The paper of changes for a cell of the sheet behind the edits, and what it shows then."""
    keeper, changes = Keeper(SHEET), []
    kind = oracle.kinds_of_sheet(SHEET)[name]
    for edit in EDITS:
        still = oracle.still(kind, keeper.value(name))
        changes.append(dict(keeper.edit(edit)).get(name, still))
    return ("kept", tuple(changes)), keeper.value(name)


S_PAPER, S_VALUE = kept("s")
T_PAPER, T_VALUE = kept("t")
ACCEPTED = (
    (("means", TWICE, (4,), 8), ()), (("means", read_term("1 < 2"), (), ("left", ())), ()),
    (("means", read_term("fn x: num. fn b: bag num. b + one(x)"), (1, ((1, -1),)), ()), ()),
    (("means not", TWICE, (4,), 9), ()), (("means not", read_term("1 < 2"), (), ("right", ())), ()),
    (("unlike functions", TWICE, SQUARE), (3,)), (("unlike functions", read_term("1"), read_term("2")), ()),
    (("unlike functions", read_term("fn x: num. fn y: num. x"), read_term("fn x: num. fn y: num. y")), (1, 2)),
    (("leads", NAMES, (("e", UP), ("n", 1)), PRODUCT, 19), ()), (("leads", NAMES, (), PRODUCT, 0), ()),
    (("leads", NAMES, (("e", ("right", ("right", ()))),), read_term("e"), ("right", ("right", ()))), ()),
    (("leads", NAMES, (("e", UP),), read_term("e"), NEW), ()), (("leads", (), (), read_term("()"), ()), ()),
    (("derivative", CONTEXT, ("e", "n"), PRODUCT, derivative(CONTEXT, ("e", "n"), PRODUCT)), ()),
    (("derivative", CONTEXT, (), read_term("fn x: num. x * n"), derivative(CONTEXT, (), read_term("fn x: num. x * n"))), ()),
    (("derivative", (("f", STEP), ("f'", NUM)), ("f",), read_term("f(1)"), derivative(
        (("f", STEP),), ("f",), read_term("f(1)"))), ()),
    (("no derivative", CONTEXT, ("n",), PRODUCT, read_term("n'")), (NAMES, (("n", 1),))),
    (("no derivative", CONTEXT, ("e", "n"), PRODUCT, WRONG_PRODUCT), (NAMES, (("e", UP), ("n", 0)))),
    (("no derivative", CONTEXT, ("e",), read_term("e"), read_term("left(right(num, ()), num | unit)")), (NAMES, (("e", UP),))),
    (("no derivative", CONTEXT, (), PRODUCT, read_term("1")), (NAMES, ())),
    (("adds not", SUPPORT), (((1, 1),), ((1, 1),))), (("adds not", SUPPORT), (((1, -1),), ((1, 1),))),
    (("led", SIDES, LEFT, UP, ("left", 7)), ()), (("led", SIDES, LEFT, OTHER, ("right", ())), ()),
    (("led", BAG, ((1, 1),), ((1, -1),), ()), ()), (("led", UNIT, (), (), ()), ()),
    (("alike", SIDES, LEFT, UP, NEW), ()), (("alike", NUM, 1, 2, 2), ()), (("unlike", SIDES, LEFT, UP, OTHER), ()),
    (("unlike", NUM, 1, 2, 3), ()),
    (("shown", SHEET, EDITS, "s", S_VALUE), ()), (("shown", SHEET, EDITS, "s", S_VALUE), S_PAPER),
    (("shown", SHEET, EDITS, "t", T_VALUE), ()), (("shown", SHEET, EDITS, "t", T_VALUE), T_PAPER),
    (("shown", SHEET, (), "a", 3), ()), (("shown", SHEET, (), "a", 3), ("kept", ())), (("shown", SHEET, ((),), "a", 3), ("kept", (0,))),
    (("not shown", SHEET, EDITS, "s", S_VALUE + 1), ()), (("not shown", SHEET, (), "t", ("right", ())), ()),
)
# What is not so, or not as told, though it looks like it.
REFUSED = (
    (("means", TWICE, (4,), 9), ()), (("means", TWICE, (4,), True), ()), (("means", TWICE, (), TWICE), ()),
    (("means", TWICE, (4, 4), 8), ()), (("means", TWICE, [4], 8), ()), (("means", ("name", "x"), (), 1), ()),
    (("means", ("minus", ("unit",)), (), ()), ()), (("means", TWICE, (True,), 2), ()), (("means", TWICE, (4,), 8), None),
    (("means", TWICE, (4,), 8), []), (("means", TWICE, (4,), 8), ((),)), (("means", TWICE, (4,), 8), (4,)),
    (("means", ("let", "x'", ("number", 8), ("name", "x'")), (), 8), ()), (("means", read_term("fn f: num -> num. 8"), (4,), 8), ()),
    (("means not", TWICE, (4,), 8), ()), (("means not", TWICE, (4,), True), ()), (("means not", TWICE, (4,), ()), ()),
    (("means not", TWICE, (4,), None), ()), (("means not", TWICE, (), 8), ()),
    (("unlike functions", TWICE, SQUARE), (2,)), (("unlike functions", TWICE, SQUARE), ()), (("unlike functions", TWICE, SQUARE), (3, 3)),
    (("unlike functions", TWICE, read_term("fn x: num. ()")), (3,)), (("unlike functions", TWICE, SQUARE), [3]),
    (("unlike functions", TWICE, SQUARE), 3), (("unlike functions", TWICE, TWICE), (3,)), (("unlike functions", TWICE, SQUARE), (True,)),
    (("leads", NAMES, (("e", UP), ("n", 1)), PRODUCT, 18), ()), (("leads", NAMES, (("n", 1), ("e", UP)), PRODUCT, 19), ()),
    (("leads", NAMES, (("e", STAY),), PRODUCT, 0), ()), (("leads", NAMES, (), read_term("e"), STAY), ()),
    (("leads", NAMES, (), read_term("fn x: num. n"), 0), ()), (("leads", NAMES, (), PRODUCT, False), ()),
    (("leads", NAMES, (("m", 1),), PRODUCT, 0), ()), (("leads", NAMES, (), read_term("n + m"), 0), ()),
    (("derivative", CONTEXT, ("n",), PRODUCT, read_term("n'")), ()),
    (("derivative", CONTEXT, ("n", "e"), PRODUCT, derivative(CONTEXT, ("e", "n"), PRODUCT)), ()),
    (("derivative", CONTEXT, ("e", "n"), PRODUCT, derivative(CONTEXT, ("e", "n"), PRODUCT)), (NAMES, ())),
    (("no derivative", CONTEXT, ("e", "n"), PRODUCT, derivative(CONTEXT, ("e", "n"), PRODUCT)), (NAMES, (("e", UP), ("n", 1)))),
    (("no derivative", CONTEXT, ("n",), PRODUCT, read_term("n'")), ()), (("no derivative", CONTEXT, ("n",), PRODUCT, read_term("n'")), (NAMES, ())),
    (("no derivative", CONTEXT, ("n",), PRODUCT, read_term("n'")), (NAMES[::-1], (("n", 1),))),
    (("no derivative", CONTEXT, ("n",), PRODUCT, read_term("n'")), (NAMES, (("n", 0),))),
    (("no derivative", CONTEXT, ("n",), PRODUCT, read_term("()")), (NAMES, (("n", 1),))),
    (("no derivative", CONTEXT, ("n",), PRODUCT, read_term("e'")), (NAMES, (("n", 1),))),
    (("no derivative", CONTEXT, ("n",), PRODUCT, read_term("n'")), (NAMES, (("e", UP), ("n", 1)))),
    (("no derivative", CONTEXT, ("n",), PRODUCT, read_term("n'")), [NAMES, (("n", 1),)]),
    (("no derivative", (("f", STEP),), (), read_term("f(1)"), read_term("1")), ((("f", STEP, TWICE),), ())),
    (("no derivative", (("x", NUM),), (), read_term("fn y: num. x"), read_term("fn y: num. fn v: num. 1")), ((("x", NUM, 1),), ())),
    (("adds not", ADDER), (((1, 1),), ((1, 1),))), (("adds not", SUPPORT), (((1, 1),), ())), (("adds not", SUPPORT), ()),
    (("adds not", SUPPORT), [((1, 1),), ((1, 1),)]), (("adds not", SUPPORT), (((1, 1),), ((1, 1),), ())),
    (("adds not", TWICE), (1, 1)), (("adds not", SUPPORT), (((1, 1),), ((True, 1),))), (("adds not", SUPPORT), (((1, 0),), ((1, 1),))),
    (("led", SIDES, LEFT, STAY, LEFT), ()), (("led", SIDES, LEFT, UP, ("left", 8)), ()), (("led", STEP, TWICE, TWICE, TWICE), ()),
    (("led", NUM, 0, 1, True), ()), (("led", NUM, True, 0, 1), ()), (("led", BAG, (), (), []), ()),
    (("alike", SIDES, LEFT, STAY, STAY), ()), (("alike", SIDES, LEFT, UP, OTHER), ()), (("unlike", SIDES, LEFT, UP, NEW), ()),
    (("unlike", SIDES, LEFT, UP, STAY), ()), (("unlike", SIDES, LEFT, STAY, UP), ()), (("alike", NUM, 1, 1, True), ()),
    (("shown", SHEET, EDITS, "s", S_VALUE + 1), ()), (("shown", SHEET, EDITS, "s", S_VALUE + 1), S_PAPER),
    (("shown", SHEET, EDITS, "by", 1), ()), (("shown", SHEET, EDITS, "z", 1), ()), (("shown", SHEET, (), "a", True), ()),
    (("shown", SHEET, (), "a", 3), ("kept", (0,))), (("shown", SHEET, ((),), "a", 3), ("kept", ())), (("shown", SHEET, (), "a", 3), ("kept",)),
    (("shown", SHEET, (), "a", 3), ("Kept", ())), (("shown", SHEET, (), "a", 3), ["kept", ()]), (("shown", SHEET, (), "a", 3), ("kept", [])),
    (("shown", SHEET, ((),), "a", 3), ("kept", (False,))), (("shown", SHEET, ((), ()), "a", 3), ("kept", (1, -1))),
    (("shown", SHEET, ((("e", STAY),),), "s", 21), ()), (("shown", SHEET + (1,), (), "a", 3), ()),
    (("shown", SHEET + (("cell", "z", ("minus", ("unit",))),), (), "a", 3), ()), (("shown", list(SHEET), (), "a", 3), ()),
    (("shown", SHEET, [], "a", 3), ()), (("shown", SHEET, ((("by", 1),),), "a", 3), ()), (("shown", SHEET, ((),) * 41, "a", 3), ()),
    (("not shown", SHEET, EDITS, "s", S_VALUE), ()), (("not shown", SHEET, EDITS, "s", S_VALUE + 1), S_PAPER),
    (("not shown", SHEET, (), "a", ()), ()), (("not shown", SHEET, (), "by", 1), ()), (("not shown", SHEET, (), "by", ("left", 3)), ()),
    (("shown", SHEET, (), "a", 3), (Stubborn(), ())), (("not shown", SHEET, (), "z", 1), ()),
    (("not shown", SHEET, (), "t", LEFT), ("kept", ())), (("not shown", SHEET, (), "a", True), ()),
    (("Means", TWICE, (4,), 8), ()), (("",), ()), ((), ()), (("means",), ()), (None, ()), (None, None), ("means", ()),
)


class AcceptsTest(Case):

    def check(self, claim, paper, expected):
        self.assertIs(accepts(claim, paper), expected)

    def test_what_is_accepted(self):
        for claim, paper in ACCEPTED:
            with self.subTest(claim, paper=paper):
                self.check(claim, paper, True)
                self.assertIs(accepts(paper=paper, claim=claim), True)
                self.assertIs(judged(claim, paper), True)

    def test_what_is_not(self):
        for claim, paper in REFUSED:
            with self.subTest(claim, paper=paper):
                self.check(claim, paper, False)
                self.assertIs(judged(claim, paper), False)

    def test_edits_up_to_forty(self):
        for many, expected in ((0, True), (39, True), (40, True), (41, False)):
            claim = ("shown", SHEET, ((("a", 1),),) * many, "a", 3 + many)
            self.check(claim, (), expected)
            self.check(claim, ("kept", (1,) * many), expected)
            self.check(("not shown",) + claim[1:4] + (3,), (), expected and many > 0)

    def test_one_too_few_and_one_too_many(self):
        for claim, paper in ACCEPTED:
            for other in (claim[:-1], claim + ((),), claim + (claim[-1],), claim[:1], claim[1:], list(claim), (claim,)):
                with self.subTest(other):
                    self.check(other, paper, False)

    def test_other_papers(self):
        papers = {repr(paper): paper for _, paper in ACCEPTED}
        for claim, paper in ACCEPTED:
            for other in list(papers.values()) + odd_things() + [list(paper), (paper,), paper + ((),), paper[:-1]]:
                with self.subTest(claim, paper=other):
                    self.check(claim, other, judged(claim, other))

    def test_each_element_bent(self):
        accepted = 0
        for claim, paper in ACCEPTED:
            for at in range(len(claim)):
                for thing in bent(claim[at]) + bent_terms(claim[at]):
                    other = claim[:at] + (thing,) + claim[at + 1:]
                    expected = judged(other, paper)
                    with self.subTest(other):
                        self.check(other, paper, expected)
                    accepted += expected
        # Nearly nothing that is bent is so.
        self.assertLess(accepted, 400)

    def test_each_paper_bent(self):
        for claim, paper in ACCEPTED:
            for other in bent(paper):
                with self.subTest(claim, paper=other):
                    self.check(claim, other, judged(claim, other))

    def test_things_of_any_sort_in_every_place(self):
        things = odd_things() + [Stubborn(), nested(300, ("kept",), (), ()), TWICE, SHEET, EDITS, NAMES, "s"]
        for claim, paper in ACCEPTED:
            for thing in things:
                self.check(thing, paper, False)
                self.check(claim, thing, judged(claim, thing))
                for at in range(len(claim)):
                    other = claim[:at] + (thing,) + claim[at + 1:]
                    with self.subTest(other):
                        self.check(other, paper, judged(other, paper))
        for one in things:
            for two in things:
                self.check(one, two, False)

    def test_papers_of_changes_that_are_wrong_at_one_edit(self):
        for name, paper, value in (("s", S_PAPER, S_VALUE), ("t", T_PAPER, T_VALUE)):
            claim = ("shown", SHEET, EDITS, name, value)
            changes = paper[1]
            self.check(claim, paper, True)
            for at, change in enumerate(changes):
                for thing in bent(change) + [STAY, UP, OTHER, NEW, 0, 1]:
                    other = ("kept", changes[:at] + (thing,) + changes[at + 1:])
                    with self.subTest(name, at=at, thing=thing):
                        self.check(claim, other, judged(claim, other))
            # Both changes lead astray, but together to the same.
            if name == "s":
                astray = ("kept", (changes[0] + 1, changes[1] - 1) + changes[2:])
                self.check(claim, astray, False)
            for at in range(len(changes)):
                self.check(claim, ("kept", changes[:at] + changes[at + 1:]), False)
                self.check(claim, ("kept", changes[:at] + (changes[at],) + changes[at:]), False)

    def test_nothing_passed_is_changed(self):
        things = [["means", [TWICE], [4], 8], ("means", [TWICE], [4], [8]), ("shown", [SHEET], [EDITS], "s", 1)]
        held = copy.deepcopy(things)
        for thing in things:
            for other in things + [()]:
                self.check(thing, other, False)
        self.assertEqual(things, held)


def bent_terms(thing):
    """Terms, sheets and contexts that are nearly what is passed."""
    found = [TWICE, PRODUCT, ("number", 1), ("name", "x'"), ("minus", ("unit",)), (), NAMES, CONTEXT, SHEET]
    if thing == SHEET:
        found += [SHEET[::-1], SHEET[:3], SHEET[1:], SHEET + SHEET[:1], SHEET + (("cell", "s", ("number", 1)),)]
        found += [SHEET[:at] + (cell[:3] + (5,),) + SHEET[at + 1:] for at, cell in enumerate(SHEET) if cell[0] == "input"]
    if thing == EDITS:
        found += [EDITS[:at] + (edit,) + EDITS[at + 1:] for at in range(4)
                  for edit in ((("a", 0),), (("e", STAY),), (("e", UP),), (("s", 1),), None)]
    return found


class DrawnClaimsTest(Case):

    def check(self, claim, paper, expected=None):
        """The claim and the one that excludes it, as the judge tells; never both."""
        found = accepts(claim, paper)
        self.assertIs(found, judged(claim, paper))
        if expected is not None:
            self.assertIs(found, expected)
        for word, other in PAIRS.items():
            if claim[0] in (word, other):
                turned = (other if claim[0] == word else word,) + claim[1:]
                self.assertFalse(found and accepts(turned, paper))
                self.assertFalse(found and accepts(turned, ()))
        return found

    def drawn_term(self, drawer, context, kind, depths=(3, 4, 5)):
        term = ("number", 10 ** 500)
        while not is_written(term):
            term = drawer.term(context, kind, drawer.one_of(*depths))
        return term

    def test_changes(self):
        for seed in range(600):
            drawer = Drawer(seed)
            kind = drawer.data_kind(3)
            value, new = drawer.value(kind), drawer.value(kind)
            one, two, odd = drawer.fitting(kind, value), drawer.fitting(kind, value), drawer.value(oracle.changes(kind))
            with self.subTest(seed):
                self.check(("led", kind, value, one, oracle.led(kind, value, one)), (), True)
                self.check(("led", kind, value, one, new), ())
                self.check(("led", kind, value, odd, oracle.led(kind, value, odd)), ())
                same = oracle.led(kind, value, one) == oracle.led(kind, value, two)
                self.check(("alike", kind, value, one, two), (), same)
                self.check(("unlike", kind, value, one, two), (), not same)
                self.check(("alike", kind, value, one, odd), ())
                self.check(("unlike", kind, value, odd, two), ())

    def test_meanings(self):
        for seed in range(500):
            drawer = Drawer(seed)
            kind, told = drawer.data_kind(2), drawer.data_kind(2)
            one, two = [self.drawn_term(drawer, (), ("fun", told, kind)) for _ in range(2)]
            values, value = (drawer.value(told),), drawer.value(kind)
            found = oracle.meaning({}, {}, one, oracle.Calls())(values[0])
            with self.subTest(seed):
                self.check(("means", one, values, found), (), True)
                self.check(("means", one, values, value), (), found == value)
                self.check(("means not", one, values, value), (), found != value)
                other = oracle.meaning({}, {}, two, oracle.Calls())(values[0])
                self.check(("unlike functions", one, two), values, found != other)

    def test_derivatives(self):
        shown_wrong = 0
        for seed in range(500):
            drawer = Drawer(seed)
            context = tuple((name, drawer.data_kind(2)) for name in ("m", "n", "o") if drawer.chance(80))
            changing = tuple(name for name, _ in context if drawer.chance(60))
            kind = drawer.data_kind(2)
            term = self.drawn_term(drawer, context, kind)
            names = tuple((name, told, drawer.value(told)) for name, told in context)
            changes = tuple((name, drawer.fitting(told, value)) for name, told, value in names if name in changing)
            right = derivative(context, changing, term)
            inner = context + tuple((name + "'", oracle.changes(dict(context)[name])) for name in changing)
            wrong = drawer.term(inner, oracle.changes(kind), 3)
            with self.subTest(seed):
                self.check(("derivative", context, changing, term, right), (), True)
                self.check(("no derivative", context, changing, term, right), (names, changes), False)
                self.check(("derivative", context, changing, term, wrong), (), wrong == right)
                shown_wrong += self.check(("no derivative", context, changing, term, wrong), (names, changes))
                change = kept_change(names, changes, term)
                self.check(("leads", names, changes, term, change), (), True)
                self.check(("leads", names, changes, term, drawer.value(oracle.changes(kind))), ())
        self.assertGreater(shown_wrong, 100)

    def test_sums(self):
        for seed in range(500):
            drawer = Drawer(seed)
            bags = ("bag", drawer.plain_kind(2))
            body = self.drawn_term(drawer, (("b", bags),), drawer.group_kind(2))
            term = ("fn", "b", bags, body)
            if is_written(term):
                self.check(("adds not", term), (drawer.value(bags), drawer.value(bags)))

    def test_sheets(self):
        for seed in range(150):
            drawer = Drawer(seed)
            sheet = drawer.sheet(2, 4, 4)
            now, edits = sheet, ()
            keeper, papers = Keeper(sheet), {name: [] for name, _ in shown(sheet)}
            for _ in range(drawer.random.randrange(4)):
                edit = drawer.edit(now)
                was, told = dict(keeper.shown()), dict(keeper.edit(edit))
                for name in papers:
                    kind = oracle.kinds_of_sheet(sheet)[name]
                    papers[name].append(told[name] if name in told else oracle.still(kind, was[name]))
                now, edits = keeper.sheet(), edits + (edit,)
            for name, value in keeper.shown():
                kind = oracle.kinds_of_sheet(sheet)[name]
                other = drawer.value(kind)
                with self.subTest(seed, name=name):
                    paper = ("kept", tuple(papers[name]))
                    self.check(("shown", sheet, edits, name, value), (), True)
                    self.check(("shown", sheet, edits, name, value), paper, True)
                    self.check(("not shown", sheet, edits, name, value), (), False)
                    self.check(("shown", sheet, edits, name, other), (), other == value)
                    self.check(("not shown", sheet, edits, name, other), (), other != value)
                    changed = tuple(drawer.value(oracle.changes(kind)) if drawer.chance(30) else change
                                    for change in paper[1])
                    self.check(("shown", sheet, edits, name, value), ("kept", changed))


if __name__ == "__main__":
    unittest.main()
