"""[B1] and kinding.py: the kind of a term in a context, or where it is wrong first."""

import copy
import unittest

from changewise.errors import InvalidContext, InvalidTerm, WrongTerm
from changewise.kinding import kind_of
from changewise.text import read_kind, read_term
from tests import oracle
from tests.asking import AskingCase, tower, wrong_contexts, wrong_terms
from tests.drawing import Drawer
from tests.test_kinded import CONTEXT, KINDS, WRONG

NUM, UNIT = ("num",), ("unit",)
BAG, STEP, SIDES = ("bag", NUM), ("fun", NUM, NUM), ("either", NUM, UNIT)
TRUTH = ("either", UNIT, UNIT)
X = ("name", "x")
TOLD = tuple(KINDS.items())

RIGHT = (
    ("n", "num"), ("x'", "num"), ("fn x: bag num. x", "bag num -> bag num"), ("fn x: num. fn y: unit. (y, x)",
        "num -> unit -> (unit, num)"),
    ("f(n)", "num"), ("h(f)", "unit"), ("(fn x: unit. n)(u)", "num"), ("let x = b in (x, x)", "(bag num, bag num)"),
    ("let n = u in n", "unit"), ("()", "unit"), ("7", "num"), ("n + 1", "num"), ("b + b", "bag num"),
    ("g + g", "(num, bag num)"), ("-n", "num"), ("-g", "(num, bag num)"), ("-c", "bag unit"), ("n * n", "num"),
    ("zero(bag (num, unit))", "bag (num, unit)"), ("zero((num, bag num))", "(num, bag num)"), ("(f, n)",
        "(num -> num, num)"),
    ("first(p)", "num"), ("second(p)", "unit"), ("second((n, f))", "num -> num"), ("left(f, num)", "(num -> num) | num"),
    ("right(bag num, u)", "bag num | unit"), ("case e {x. x; y. n}", "num"),
    ("case e {x. fn z: num. x; x. fn z: num. z}", "num -> num"), ("case left(f, num) {x. x(1); y. y}", "num"),
    ("n < 1", "unit | unit"), ("n == n", "unit | unit"), ("1 <= n", "unit | unit"), ("one(e)", "bag (num | unit)"),
    ("one(p)", "bag (num, unit)"), ("one(())", "bag unit"), ("total(f, b)", "num"), ("total(fn x: num. g, b)",
        "(num, bag num)"),
    ("total(fn u: unit. one(u), c)", "bag unit"), ("count(b, n)", "num"), ("count(one(p), p)", "num"),
    ("support(c)", "bag unit"),
)


class KindOfTest(AskingCase):

    def test_each_word_in_its_right_use(self):
        for text, kind in RIGHT:
            with self.subTest(text):
                self.assertEqual(kind_of(TOLD, read_term(text)), read_kind(kind))
                self.assertEqual(kind_of(term=read_term(text), context=TOLD), read_kind(kind))

    def test_each_word_in_its_wrong_uses(self):
        for text, place in WRONG:
            for wrap, ahead in ((lambda term: term, ()), (lambda term: ("fn", "w", STEP, term), (3,)),
                                (lambda term: ("case", ("name", "e"), "w", ("number", 1), "v", term), (5,)),
                                (lambda term: ("pair", ("is", "<", ("number", 1), term), ("name", "none")), (1, 3))):
                with self.subTest(text, ahead=ahead):
                    term = wrap(read_term(text))
                    self.assert_told(WrongTerm, {"place": ahead + place}, kind_of, TOLD, term)
                    self.assert_told(WrongTerm, {"place": ahead + place}, kind_of, term=term, context=TOLD)

    def test_the_last_pair_of_a_name_counts(self):
        for kinds in ((NUM, UNIT), (UNIT, NUM), (NUM, STEP, BAG), (STEP, STEP)):
            context = tuple(("x", kind) for kind in kinds)
            self.assertEqual(kind_of(context, X), kinds[-1])
            self.assertEqual(kind_of((("x", UNIT), ("y", NUM)) + context + (("y", UNIT),), X), kinds[-1])
        self.assert_told(WrongTerm, {"place": (1,)}, kind_of, (("x", NUM), ("x", UNIT)), ("minus", X))

    def test_names_that_are_hidden(self):
        context = (("x", NUM), ("y", SIDES))
        for text, kind in (("fn x: unit. x", "unit -> unit"), ("let x = () in x", "unit"),
                           ("case y {x. left(x, unit); x. right(num, x)}", "num | unit"),
                           ("(fn x: unit. x)(let x = x + 1 in ())", "unit"), ("let x = (x, ()) in second(x)", "unit"),
                           ("(let x = () in x, x)", "(unit, num)"), ("(fn x: unit. 1)(()) + x", "num"),
                           ("case y {y. y; x. 1} + case y {x. x; y. 1}", "num"),
                           ("fn x: unit. fn x: bag num. x", "unit -> bag num -> bag num")):
            with self.subTest(text):
                self.assertEqual(kind_of(context, read_term(text)), read_kind(kind))
        for text, place in (("fn x: unit. x + x", (3, 1)), ("(let x = () in x) + x", (1,)),
                            ("case y {x. x; x. x}", (5,)), ("let y = x in case y {x. x; x. 1}", (3, 1))):
            self.assert_told(WrongTerm, {"place": place}, kind_of, context, read_term(text))

    def test_marked_names(self):
        context = (("x", NUM), ("x'", UNIT), ("x'1", BAG))
        for text, kind in (("x'", UNIT), ("(x, x')", ("pair", NUM, UNIT)), ("fn x': num. (x, x')", None),
                           ("let x' = x in x' + x", NUM), ("x'1", BAG), ("fn x: unit. x'", ("fun", UNIT, UNIT))):
            found = kind_of(context, read_term(text))
            self.assertEqual(found, ("fun", NUM, ("pair", NUM, NUM)) if kind is None else kind)
        self.assert_told(WrongTerm, {"place": ()}, kind_of, context, ("name", "x'2"))

    def test_of_a_case_e_is_told_ahead_of_what_its_sides_see(self):
        wrong = ("name", "none")
        for told, place in ((("number", 1), (1,)), (("minus", ("unit",)), (1, 1)), (("name", "e"), (3,))):
            self.assert_told(WrongTerm, {"place": place}, kind_of, TOLD, ("case", told, "x", wrong, "y", wrong))
        self.assert_told(WrongTerm, {"place": (5,)}, kind_of, TOLD, ("case", ("name", "e"), "x", X, "y", wrong))

    def test_deep_terms(self):
        for depth in (99, 100):
            self.assertEqual(kind_of((("x", NUM),), tower(depth)), NUM)
            self.assertEqual(kind_of((), tower(depth, ("number", 1))), NUM)
            self.assert_told(WrongTerm, {"place": (1,) * (depth - 1)}, kind_of, (), tower(depth))
            self.assert_told(WrongTerm, {"place": (1,) * (depth - 1)}, kind_of, (("x", UNIT),),
                             tower(depth, ("minus", X))[1])
        self.assert_told(InvalidTerm, {"place": (1,) * 100}, kind_of, (("x", NUM),), tower(101))
        self.assertEqual(kind_of((("x", NUM),), ("plus", tower(99), tower(99))), NUM)

    def test_long_contexts(self):
        context = tuple((f"x{at}", NUM) for at in range(40))
        self.assertEqual(kind_of(context, ("name", "x39")), NUM)
        self.assertEqual(kind_of((("x", NUM),) * 40, X), NUM)
        self.assert_told(InvalidContext, {"index": None}, kind_of, context + (("x", NUM),), X)
        self.assert_told(InvalidContext, {"index": 39}, kind_of, context[:39] + (("X", NUM),), X)

    def test_drawn_terms_of_a_kind(self):
        context = tuple((name, kind) for name, kind in KINDS.items() if "'" not in name)
        for seed in range(400):
            drawer = Drawer(seed)
            kind = drawer.kind(4)
            self.assertEqual(kind_of(context, drawer.term(context, kind, 6)), kind)

    def test_drawn_terms_of_any_sort(self):
        """Most have no kind; the second reading tells the same place."""
        context = TOLD + (("y", NUM), ("f1", STEP), ("abcdefgh", SIDES), ("y'12", BAG), ("x", BAG))
        kinds, wrong = dict(context), 0
        for seed in range(1500):
            term = Drawer(seed).any_term(5)
            try:
                expected = oracle.kind_of(kinds, term)
            except oracle.NoKind as error:
                wrong += 1
                self.assert_told(WrongTerm, {"place": error.args[0]}, kind_of, context, term)
            else:
                self.assertEqual(kind_of(context, term), expected)
        self.assertGreater(wrong, 500)

    def test_names_are_told_apart(self):
        self.assertEqual(sorted(CONTEXT), sorted(KINDS))
        self.assert_told(WrongTerm, {"place": ()}, kind_of, (), X)


class WrongArgumentsTest(AskingCase):

    def test_each_and_several_at_once(self):
        self.check_wrong(kind_of, {"context": (("x", NUM), ("y'", STEP)), "term": X},
                         {"context": wrong_contexts(), "term": wrong_terms()})

    def test_a_term_that_has_no_kind_is_told_last(self):
        self.assert_told(InvalidContext, {"index": 0}, kind_of, (1,), ("minus", ("unit",)))
        self.assert_told(InvalidTerm, {"place": (2,)}, kind_of, (), ("plus", ("unit",), 1))
        self.assert_told(WrongTerm, {"place": (1,)}, kind_of, (), ("plus", ("unit",), ("number", 1)))

    def test_what_was_passed_is_as_it_was(self):
        things = [(["x", ["num"]],), [("x", NUM)], ["name", "x"], ("minus", ["x"])]
        held = copy.deepcopy(things)
        for context in things + [(("x", NUM),)]:
            for term in things + [X]:
                try:
                    kind_of(context, term)
                except (InvalidContext, InvalidTerm):
                    pass
        self.assertEqual(things, held)


if __name__ == "__main__":
    unittest.main()
