"""[A1], the depth of [A5], and kinds.py."""

import copy
import unittest

from changewise.errors import InvalidKind
from changewise.kinds import TRUTH, depth_of_kind, is_data_kind, is_group_kind, is_kind, is_plain_kind
from tests.cases import Case, nested, odd_things

UNIT, NUM = ("unit",), ("num",)
BAG, STEP = ("bag", NUM), ("fun", NUM, NUM)
QUESTIONS = (is_kind, is_plain_kind, is_data_kind, is_group_kind)
WORDS = {"unit": 0, "num": 0, "pair": 2, "either": 2, "bag": 1, "fun": 2}

# Each kind with what is_plain_kind, is_data_kind, is_group_kind and depth_of_kind tell.
TOLD = (
    (UNIT, True, True, False, 1),
    (NUM, True, True, True, 1),
    (("pair", NUM, NUM), True, True, True, 2),
    (("pair", NUM, UNIT), True, True, False, 2),
    (("pair", UNIT, NUM), True, True, False, 2),
    (("pair", UNIT, UNIT), True, True, False, 2),
    (("either", NUM, NUM), True, True, False, 2),
    (("either", UNIT, UNIT), True, True, False, 2),
    (BAG, False, True, True, 2),
    (("bag", UNIT), False, True, True, 2),
    (("bag", ("either", UNIT, NUM)), False, True, True, 3),
    (("bag", ("pair", UNIT, TRUTH)), False, True, True, 4),
    (STEP, False, False, False, 2),
    (("fun", BAG, STEP), False, False, False, 3),
    (("fun", STEP, NUM), False, False, False, 3),
    (("pair", BAG, NUM), False, True, True, 3),
    (("pair", NUM, BAG), False, True, True, 3),
    (("pair", BAG, UNIT), False, True, False, 3),
    (("pair", STEP, NUM), False, False, False, 3),
    (("pair", NUM, STEP), False, False, False, 3),
    (("pair", ("pair", NUM, NUM), BAG), False, True, True, 3),
    (("pair", ("pair", NUM, UNIT), NUM), True, True, False, 3),
    (("pair", ("either", NUM, NUM), NUM), True, True, False, 3),
    (("either", BAG, NUM), False, True, False, 3),
    (("either", NUM, BAG), False, True, False, 3),
    (("either", STEP, NUM), False, False, False, 3),
    (("either", NUM, ("pair", NUM, STEP)), False, False, False, 4),
    (("pair", NUM, ("pair", NUM, ("pair", NUM, BAG))), False, True, True, 5),
    (("pair", ("pair", ("pair", NUM, NUM), NUM), NUM), True, True, True, 4),
)

NO_KINDS = (
    (), ("",), ("Num",), ("num ",), ("int",), ("name",), ("nums",), ("pairs", NUM, NUM), ("function", NUM, NUM),
    ("num", ()), ("unit", ()), ("unit", None), ("num", NUM), ("pair",), ("pair", NUM), ("pair", NUM, NUM, NUM),
    ("either",), ("either", NUM), ("either", UNIT, UNIT, UNIT), ("bag",), ("bag", NUM, NUM), ("fun",),
    ("fun", NUM), ("fun", NUM, NUM, NUM), ("pair", NUM, "num"), ("pair", "num", NUM), ("pair", NUM, ()),
    ("pair", (), NUM), ("either", NUM, None), ("either", None, NUM), ("bag", "num"), ("bag", ()), ("bag", True),
    ("fun", NUM, 3), ("fun", 3, NUM), ("pair", NUM, ["num"]), ("bag", ["num"]), ["bag", NUM], ["pair", NUM, NUM],
    ("fun", NUM, ["num"]), ("either", ["unit"], UNIT), ("pair", NUM, ("pair", NUM, ("pair", NUM, ("int",)))),
    ("bag", BAG), ("bag", STEP), ("bag", ("pair", NUM, BAG)), ("bag", ("pair", BAG, NUM)),
    ("bag", ("either", UNIT, STEP)), ("bag", ("either", STEP, UNIT)), ("bag", ("either", UNIT, ("pair", BAG, UNIT))),
    ("pair", NUM, ("bag", BAG)), ("fun", ("bag", STEP), NUM), ("num", "num"), ("unit", "num"), "pair", ("n", "u", "m"),
)


class KindsTest(Case):

    def test_truth(self):
        self.assertEqual(TRUTH, ("either", ("unit",), ("unit",)))
        self.assertTrue(is_plain_kind(TRUTH))

    def test_kinds_and_what_is_told_of_them(self):
        for kind, plain, data, group, deep in TOLD:
            with self.subTest(kind):
                self.assert_same([ask(kind) for ask in QUESTIONS], [True, plain, data, group])
                self.assert_same(depth_of_kind(kind), deep)

    def test_every_word_takes_just_its_parts(self):
        for word, many in WORDS.items():
            for parts in range(5):
                with self.subTest(word, parts=parts):
                    self.assertIs(is_kind((word,) + (NUM,) * parts), parts == many)

    def test_no_question_takes_what_is_no_kind(self):
        for thing in list(NO_KINDS) + odd_things():
            for ask in QUESTIONS:
                with self.subTest(ask.__name__, thing=thing):
                    self.assertIs(ask(thing), False)

    def test_what_holds_no_kind_is_none(self):
        for thing in odd_things():
            for kind in (("bag", thing), ("pair", thing, NUM), ("pair", NUM, thing), ("either", thing, UNIT),
                         ("either", UNIT, thing), ("fun", thing, NUM), ("fun", NUM, thing)):
                for ask in QUESTIONS:
                    with self.subTest(ask.__name__, kind=kind):
                        self.assertIs(ask(kind), False)

    def test_the_depth_of_what_is_no_kind(self):
        for thing in list(NO_KINDS) + odd_things():
            with self.subTest(thing=thing):
                self.assert_told(InvalidKind, {"given": thing}, depth_of_kind, thing)

    def test_by_name(self):
        for ask in QUESTIONS:
            self.assertIs(ask(value=NUM), True)
        self.assertEqual(depth_of_kind(kind=BAG), 2)
        self.assert_told(InvalidKind, {"given": None}, depth_of_kind, kind=None)

    def test_nothing_passed_is_changed(self):
        things = [["pair", ["num"], ["num"]], {"num": [1]}, {"num"}, ("pair", ["num"], {"num": []})]
        held = copy.deepcopy(things)
        for thing in things:
            for ask in QUESTIONS:
                ask(thing)
            self.assert_told(InvalidKind, {"given": thing}, depth_of_kind, thing)
        self.assertEqual(things, held)


class DeepKindsTest(Case):

    def deep(self, depth):
        """Kinds just so deep, with what is plain, data, group of them."""
        return (
            (nested(depth, ("pair",), NUM, (NUM,)), True, True, True),
            (nested(depth, ("pair", NUM), NUM, ()), True, True, True),
            (nested(depth, ("pair",), UNIT, (NUM,)), True, True, False),
            (nested(depth, ("either",), NUM, (UNIT,)), True, True, False),
            (nested(depth, ("either", UNIT), NUM, ()), True, True, False),
            (nested(depth, ("fun",), NUM, (NUM,)), False, False, False),
            (nested(depth, ("fun", NUM), NUM, ()), False, False, False),
            (("bag", nested(depth - 1, ("pair",), NUM, (UNIT,))), False, True, True),
            (nested(depth - 1, ("pair",), BAG, (NUM,)), False, True, True),
            (nested(depth - 1, ("pair", NUM), STEP, ()), False, False, False),
        )

    def test_up_to_a_hundred_deep(self):
        for depth in (2, 20, 99, 100):
            for kind, plain, data, group in self.deep(depth):
                with self.subTest(kind[:2], depth=depth):
                    self.assert_same([ask(kind) for ask in QUESTIONS], [True, plain, data, group])
                    self.assertEqual(depth_of_kind(kind), depth)

    def test_what_is_deeper_is_none(self):
        for depth in (101, 102, 150, 300):
            for kind, _, _, _ in self.deep(depth):
                with self.subTest(kind[:2], depth=depth):
                    self.assert_same([ask(kind) for ask in QUESTIONS], [False, False, False, False])
                    self.assert_told(InvalidKind, {"given": kind}, depth_of_kind, kind)

    def test_bags_within_bags_however_deep(self):
        for depth in (3, 50, 100, 300):
            self.assertIs(is_kind(nested(depth, ("bag",), NUM, ())), False)

    def test_the_deepest_part_tells_wherever_it_stands(self):
        deep = nested(99)
        for kind in (("pair", deep, NUM), ("pair", NUM, deep), ("either", deep, deep), ("fun", NUM, deep)):
            self.assertIs(is_kind(kind), True)
            self.assertEqual(depth_of_kind(kind), 100)
            self.assertIs(is_kind(("pair", NUM, kind)), False)


if __name__ == "__main__":
    unittest.main()
