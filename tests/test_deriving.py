"""[D1] to [D3] and deriving.py: derivatives of terms of any kind, in names of any kind, and what they tell."""

import copy
import unittest

from changewise.deriving import derivative, kept_change
from changewise.errors import InvalidChanges, InvalidChanging, InvalidContext, InvalidTerm, NotData, WrongTerm
from changewise.kinding import kind_of
from changewise.meaning import value_in
from changewise.terms import free_names, is_term, is_written
from changewise.text import read_kind, read_term
from tests import oracle
from tests.asking import (
    AskingCase, wrong_changes, wrong_changing, wrong_contexts, wrong_names, wrong_written,
)
from tests.drawing import TRUTH, Drawer
from tests.sampling import Sampler

NUM, UNIT = ("num",), ("unit",)
BAG, STEP, SIDES = ("bag", NUM), ("fun", NUM, NUM), ("either", NUM, UNIT)
X, ONE = ("name", "x"), ("number", 1)
# Names of each sort of kind; functions, and pairs and sides of functions, among them.
POOL = (
    ("b", BAG), ("c", ("bag", SIDES)), ("e", SIDES), ("f", STEP), ("g", ("fun", STEP, NUM)),
    ("h", ("fun", NUM, ("fun", NUM, BAG))), ("k", ("fun", SIDES, NUM)), ("m", NUM), ("n", NUM),
    ("o", ("either", STEP, NUM)), ("p", ("pair", STEP, NUM)), ("q", ("pair", NUM, BAG)), ("s", TRUTH), ("u", UNIT),
)


class Checked:
    """A term in a context, its derivative, and what both mean by the second interpreter."""

    def __init__(self, case, sampler, context, changing, term):
        self.case, self.sampler, self.changing = case, sampler, changing
        self.kinds = dict(context)
        self.kind, self.means = oracle.read(self.kinds, term)
        found = derivative(context, changing, term)
        case.assertIs(is_term(found), True)
        marked = {name + "'": oracle.changes(self.kinds[name]) for name in changing}
        kinds = {**self.kinds, **marked}
        case.assertEqual(kind_of(tuple(kinds.items()), found), oracle.changes(self.kind))
        self.told_kind, self.tells = oracle.read(kinds, found)
        case.assertEqual(self.told_kind, oracle.changes(self.kind))
        case.assertEqual(derivative(context=context, changing=changing, written=term), found)
        case.assertLessEqual(set(free_names(found)), set(free_names(term)) | set(marked))

    def values(self):
        return {name: self.sampler.value(kind) for name, kind in self.kinds.items()}

    def changes(self, values):
        return {name: self.sampler.fitting(self.kinds[name], values[name]) for name in self.changing}

    def led(self, values, changes):
        return {name: oracle.led(self.kinds[name], value, changes[name]) if name in changes else value
                for name, value in values.items()}

    def change(self, values, changes):
        return self.tells({**values, **{name + "'": change for name, change in changes.items()}}, oracle.Calls())

    def meaning(self, values):
        return self.means(values, oracle.Calls())

    def check(self, values, changes):
        """The derivative fits, and leads; where it leads."""
        was, now, change = self.meaning(values), self.meaning(self.led(values, changes)), self.change(values, changes)
        self.case.assertTrue(self.sampler.fits(self.kind, was, change))
        behind = oracle.led(self.kind, was, change)
        self.case.assertTrue(self.sampler.alike(self.kind, behind, now))
        return behind, change


def drawn(seed, depths=(3, 4, 5, 6)):
    """A drawer, a context, names that may change, and a term as written of any kind."""
    drawer = Drawer(seed)
    context = tuple(pair for pair in POOL if drawer.chance(70))
    changing = tuple(name for name, _ in context if drawer.chance(60))
    term = ("number", 10 ** 500)
    while not is_written(term):
        term = drawer.term(context, drawer.kind(3), drawer.one_of(*depths))
    return drawer, context, changing, term


class DerivativeTest(AskingCase):

    def checked(self, drawer, context, changing, term):
        return Checked(self, Sampler(drawer), context, changing, term)

    def test_drawn_terms_of_any_kind(self):
        words = set()
        for seed in range(4000):
            drawer, context, changing, term = drawn(seed)
            with self.subTest(seed):
                checked = self.checked(drawer, context, changing, term)
                for _ in range(2):
                    values = checked.values()
                    checked.check(values, checked.changes(values))
            words |= set(repr(term).split("'"))
        for word in ("fn", "call", "let", "unit", "number", "plus", "minus", "times", "zero", "pair", "first", "second",
                     "left", "right", "case", "is", "one", "total", "count", "support"):
            self.assertIn(word, words)

    def test_changes_that_change_nothing(self):
        for seed in range(600):
            drawer, context, changing, term = drawn(seed)
            checked = self.checked(drawer, context, changing, term)
            values = checked.values()
            changes = {name: oracle.still(checked.kinds[name], values[name]) for name in changing}
            with self.subTest(seed):
                behind, _ = checked.check(values, changes)
                self.assertTrue(checked.sampler.alike(checked.kind, behind, checked.meaning(values)))

    def test_alike_changes_lead_to_the_same(self):
        """A change on a side, and the new value told whole; a difference to the same, told otherwise."""
        for seed in range(600):
            drawer, context, changing, term = drawn(seed)
            checked = self.checked(drawer, context, changing, term)
            values = checked.values()
            one = checked.changes(values)
            two = {name: told_whole(checked.kinds[name], values[name], one[name]) for name in one}
            with self.subTest(seed):
                for first, second in ((one, two), (two, one)):
                    led, other = checked.check(values, first)[0], checked.check(values, second)[0]
                    self.assertTrue(checked.sampler.alike(checked.kind, led, other))

    def test_two_rows_one_behind_the_other(self):
        for seed in range(600):
            drawer, context, changing, term = drawn(seed)
            checked = self.checked(drawer, context, changing, term)
            values = checked.values()
            one = checked.changes(values)
            behind = checked.led(values, one)
            two = checked.changes(behind)
            with self.subTest(seed):
                self.assertTrue(checked.sampler.alike(
                    checked.kind, checked.check(behind, two)[0],
                    oracle.led(checked.kind, checked.check(values, one)[0], checked.change(behind, two))))
                if all(oracle.is_data(checked.kinds[name]) for name in changing):
                    both = {name: oracle.joined(checked.kinds[name], values[name], one[name], two[name])
                            for name in changing}
                    led = checked.check(values, both)[0]
                    self.assertTrue(checked.sampler.alike(checked.kind, led, checked.check(behind, two)[0]))

    def test_where_nothing_may_change(self):
        for seed in range(300):
            drawer, context, _, term = drawn(seed)
            checked = self.checked(drawer, context, (), term)
            values = checked.values()
            _, change = checked.check(values, {})
            if oracle.is_data(checked.kind):
                self.assert_same(change, oracle.still(checked.kind, checked.meaning(values)))

    def test_a_marked_name_of_the_context_is_hidden(self):
        context = (("x", NUM), ("x'", STEP), ("y", NUM), ("y'", UNIT), ("x'1", NUM))
        term = read_term("x * y + x")
        for changing in (("x",), ("y",), ("x", "y"), ()):
            found = derivative(context, changing, term)
            kinds = {**dict(context), **{name + "'": NUM for name in changing}}
            self.assertEqual(kind_of(tuple(kinds.items()), found), NUM)
            self.assertLessEqual(set(free_names(found)), {"x", "y"} | {name + "'" for name in changing})
        told = derivative(context, ("x",), term)
        values = (("x", NUM, 3), ("y", NUM, 5))
        self.assert_same(oracle.meaning({**dict(context), "x'": NUM}, {**{name: value for name, _, value in values},
                                        "x'": 2}, told, oracle.Calls()), 12)

    def test_the_last_pair_of_a_name_counts(self):
        context = (("x", UNIT), ("y", NUM), ("x", NUM))
        found = derivative(context, ("x",), ("plus", X, X))
        self.assertEqual(kind_of(context + (("x'", NUM),), found), NUM)
        self.assert_told(WrongTerm, {"place": (1,)}, derivative, context[:2], ("x",), ("plus", X, X))

    def test_names_bound_within(self):
        # x is bound again where another x stands free, by each word that binds.
        for at, text in enumerate((
                "let x = x * x in x * y", "let x = y in x", "let y = x in let x = y * x in x + y",
                "(fn x: num. x * y)(x)", "fn x: num. x * y", "(let x = 1 in x) * x", "case e {x. x * y; v. x}",
                "case e {v. x; x. y}", "total(fn x: num. x * y, b + one(x))", "let x = e in case x {x. x * y; x. y}",
                "let e = left(x, unit) in case e {e. e * x; e. y}", "(fn f: num -> num. let x = f(x) in f(x))(fn x: num. x * y)",
                "let x = (x, y) in first(x) * second(x)", "let f = fn y: num. x * y in let x = 2 in f(x)")):
            context = (("b", BAG), ("e", SIDES), ("x", NUM), ("y", NUM))
            for changing in (("x",), ("y",), ("e",), ("x", "y"), ("b", "e", "x", "y"), ("b", "e"), ()):
                with self.subTest(text, changing=changing):
                    checked = self.checked(Drawer(at), context, changing, read_term(text))
                    for _ in range(4):
                        values = checked.values()
                        checked.check(values, checked.changes(values))

    def test_names_that_the_derivative_might_take(self):
        names = tuple((f"z{at}", NUM) for at in range(1, 6)) + (("c", NUM), ("v", NUM), ("x", NUM))
        for at, text in enumerate((
                "z1 * z2 * z3 * z4 * z5", "total(fn z1: num. z1 * z2 * x, one(z3) + one(z4))",
                "case left(z1, unit) {z2. z2 * z3 * z1; z4. z1 * z2}", "let z1 = z2 * z3 in z1 * z1 * z2",
                "(fn v: num. fn c: num. v * c * x)(v * c)(c * v)", "(left(z1, num), left(v, num))")):
            term = read_term(text)
            for changing in (("z1", "z2", "z3", "z4", "z5"), ("c", "v", "x", "z2"), ("z3",)):
                with self.subTest(text, changing=changing):
                    checked = self.checked(Drawer(at), tuple(sorted(names)), changing, term)
                    values = checked.values()
                    checked.check(values, checked.changes(values))

    def test_functions_that_change(self):
        # By hand: f is x + 1, then x * 3; at 4 that is 5, then 12.
        context = (("f", STEP), ("n", NUM))
        for text, was, now in (("f(n)", 5, 12), ("f(f(n))", 6, 36), ("total(f, one(n) + one(n))", 10, 24),
                               ("(fn g: num -> num. g(g(1)))(f)", 3, 9), ("let g = f in g(n) * f(2)", 15, 72),
                               ("first((f, n))(n) + second((f, n))", 9, 16)):
            checked = self.checked(Drawer(1), context, ("f",), read_term(text))
            one, two = [oracle.meaning({}, {}, read_term(each), oracle.Calls())
                        for each in ("fn x: num. x + 1", "fn x: num. x * 3")]
            values, changes = {"f": one, "n": 4}, {"f": oracle.less(STEP, two, one)}
            self.assert_same(checked.meaning(values), was)
            self.assert_same(checked.change(values, changes), now - was)

    def test_deep_written_terms(self):
        term = X
        for at in range(11):
            term = (("times", term, X), ("plus", X, term), ("let", "y", term, ("times", ("name", "y"), X)),
                    ("first", ("pair", term, X)))[at % 3]
        tall = X
        for _ in range(11):
            tall = ("fn", "y", NUM, tall)
        sides = ("name", "e")
        for _ in range(8):
            sides = ("case", sides, "y", ("left", ("plus", ("name", "y"), X), UNIT), "v", ("right", NUM, ("name", "v")))
        for at, each in enumerate((term, tall, sides)):
            checked = self.checked(Drawer(at), (("e", SIDES), ("x", NUM)), ("e", "x"), each)
            for _ in range(3):
                values = checked.values()
                checked.check(values, checked.changes(values))


def told_whole(kind, value, change):
    """An alike change: where there are sides the new value, told whole."""
    if kind[0] == "either":
        return ("right", oracle.led(kind, value, change))
    if kind[0] == "pair":
        return ("pair",) + tuple(told_whole(kind[at], value[at], change[at]) for at in (1, 2))
    if kind[0] == "fun":
        return lambda told: lambda moved: told_whole(kind[2], value(told), change(told)(moved))
    return change


class KeptChangeTest(AskingCase):

    def test_drawn_terms(self):
        changed = 0
        for seed in range(1500):
            drawer = Drawer(seed)
            names = tuple((name, kind, drawer.value(kind)) for name, kind in POOL if oracle.is_data(kind))
            kinds, means = {name: kind for name, kind, _ in names}, {name: value for name, _, value in names}
            kind, term = drawer.data_kind(3), ("number", 10 ** 500)
            while not is_written(term):
                term = drawer.term(tuple(kinds.items()), kind, drawer.one_of(4, 5, 6))
            changes = tuple((name, drawer.fitting(kinds[name], means[name])) for name in kinds if drawer.chance(50))
            behind = {**means, **{name: oracle.led(kinds[name], means[name], change) for name, change in changes}}
            was, now = [oracle.meaning(kinds, values, term, oracle.Calls()) for values in (means, behind)]
            with self.subTest(seed):
                found = kept_change(names, changes, term)
                self.assertTrue(oracle.is_value(oracle.changes(kind), found))
                self.assertTrue(oracle.fits(kind, was, found))
                self.assert_same(oracle.led(kind, was, found), now)
                self.assert_same(kept_change(written=term, changes=changes, names=names), found)
                self.assert_same(value_in(names, term), was)
                changed += was != now
        self.assertGreater(changed, 200)

    def test_of_group_kinds_it_is_the_difference(self):
        names = (("b", BAG, ((1, 2), (5, 1))), ("n", NUM, 3))
        for text, changes, expected in (
                ("n * n", (("n", 1),), 7), ("b + one(n)", (("n", 1),), ((3, -1), (4, 1))),
                ("b + one(n)", (("b", ((3, -1),)), ("n", 2)), ((3, -2), (5, 1))), ("n", (), 0), ("b", (), ()),
                ("support(b)", (("b", ((1, -2),)),), ((1, -1),)), ("count(b, n)", (("n", 2),), 1),
                ("(n, b)", (("n", -3),), ("pair", -3, ()))):
            with self.subTest(text):
                self.assert_same(kept_change(names, changes, read_term(text)), expected)

    def test_the_last_value_of_a_name_counts(self):
        names = (("x", BAG, ()), ("x", NUM, 1), ("y", NUM, 1), ("x", NUM, 10))
        self.assert_same(kept_change(names, (("x", 1),), ("times", X, X)), 21)
        self.assert_told(InvalidChanges, {"index": 0}, kept_change, names, (("x", ()),), X)


class WrongArgumentsTest(AskingCase):

    CONTEXT = (("x", NUM), ("y", BAG), ("z", SIDES), ("z'", NUM), ("x'", UNIT))
    NAMES = (("x", NUM, 1), ("y", BAG, ((1, 1),)), ("z", SIDES, ("left", 3)))

    def test_each_and_several_at_once(self):
        self.check_wrong(derivative, {"context": self.CONTEXT, "changing": ("x", "z"), "written": X},
                         {"context": wrong_contexts(), "changing": wrong_changing(), "written": wrong_written()})

    def test_each_and_several_at_once_of_kept_change(self):
        self.check_wrong(kept_change, {"names": self.NAMES, "changes": (("x", 1), ("y", ())), "written": X},
                         {"names": wrong_names(), "changes": wrong_changes(), "written": wrong_written()})

    def test_what_is_told_last(self):
        self.assert_told(InvalidContext, {"index": None}, derivative, None, None, None)
        self.assert_told(InvalidChanging, {"index": None}, derivative, (), ["x"], ("minus", 1))
        self.assert_told(InvalidChanging, {"index": 0}, derivative, (), ("x",), ("minus", 1))
        self.assert_told(InvalidTerm, {"place": (1,)}, derivative, (), (), ("minus", 1))
        self.assert_told(WrongTerm, {"place": (1,)}, derivative, (), (), ("minus", ("unit",)))
        self.assert_told(WrongTerm, {"place": ()}, derivative, (("y", NUM),), ("y",), X)
        self.assert_told(WrongTerm, {"place": ()}, kept_change, (), (), X)
        self.assert_told(NotData, {"kind": ("fun", NUM, NUM)}, kept_change, (), (), ("fn", "x", NUM, X))
        kind = read_kind("(num, num -> num)")
        self.assert_told(NotData, {"kind": kind}, kept_change, self.NAMES, (("x", 1),), read_term("(x, fn y: num. x)"))

    def test_many_names(self):
        context = tuple((f"a{at:02}", NUM) for at in range(40))
        changing = tuple(name for name, _ in context)
        term = read_term(" + ".join(changing))
        while not is_written(term):
            term = term[1]
        found = derivative(context, changing, term)
        names = tuple((name, NUM, 1) for name in changing)
        self.assertEqual(kind_of(context[:0] + tuple((name + "'", NUM) for name in changing), found), NUM)
        self.assert_same(kept_change(names, tuple((name, 2) for name in changing), term), 24)
        self.assert_told(InvalidContext, {"index": None}, derivative, context + (("x", NUM),), (), ONE)

    def test_what_was_passed_is_as_it_was(self):
        things = [[("x", NUM, 1)], (["x", NUM, 1],), ["name", "x"], ("minus", ["x"]), [("x", 1)], (["x", 1],), ["x"]]
        held = copy.deepcopy(things)
        for one in things + [()]:
            for two in things + [()]:
                for three in things + [ONE]:
                    for call in (derivative, kept_change):
                        try:
                            call(one, two, three)
                        except ValueError:
                            pass
        self.assertEqual(things, held)


if __name__ == "__main__":
    unittest.main()
