"""[A1] names, [A4] terms and terms.py."""

import copy
import unittest

from changewise.errors import InvalidTerm
from changewise.terms import depth_of, free_names, is_name, is_term, is_written, part_at, parts_of
from tests.cases import Case, Stubborn, nested, odd_things
from tests.drawing import Drawer
from tests.grammar import WORDS
from tests.oracle import names_in

UNIT, NUM = ("unit",), ("num",)
BAG, STEP = ("bag", NUM), ("fun", NUM, NUM)
X, Y, Z, ONE = ("name", "x"), ("name", "y"), ("name", "z"), ("number", 1)
GREATEST = 10 ** 400 - 1

# A term of each word, and what its elements are.
WHOLE = (
    (("name", "x"), "n"), (("fn", "x", NUM, X), "nkt"), (("call", X, Y), "tt"), (("let", "x", Y, X), "ntt"),
    (("unit",), ""),
    (("number", 1), "i"), (("plus", X, Y), "tt"), (("minus", X), "t"), (("times", X, Y), "tt"), (("zero", NUM), "g"),
    (("pair", X, Y), "tt"), (("first", X), "t"), (("second", X), "t"), (("left", X, NUM), "tk"),
    (("right", NUM, X), "kt"),
    (("case", X, "x", X, "y", Y), "tntnt"), (("is", "<", X, Y), "stt"), (("one", X), "t"), (("total", X, Y), "tt"),
    (("count", X, Y), "tt"), (("support", X), "t"),
)
# What each sort of element may be, beside what it may not be.
RIGHT = {
    "n": ("x", "a1", "abcdefgh", "x'", "x'0", "abcdefgh'12345678"),
    "k": (UNIT, NUM, BAG, STEP, ("pair", STEP, BAG), ("either", NUM, UNIT)),
    "g": (NUM, BAG, ("pair", NUM, BAG), ("bag", ("either", UNIT, NUM))),
    "t": (X, ONE, ("unit",), ("zero", NUM), ("name", "x'"), ("fn", "x'", STEP, X)),
    "i": (0, 1, -1, GREATEST, -GREATEST),
    "s": ("<", "<=", "=="),
}
WRONG = {
    "n": ("", "X", "1x", "x y", "x''", "'", "x'a", "let", "fn'", "abcdefghi", "x'123456789", "x-", "\u00e9", "x\n",
        ("x",), X),
    "k": ("num", ("int",), ("bag", BAG), ("pair", NUM), X, nested(101), ("num", NUM), ["num"]),
    "g": (UNIT, STEP, ("pair", NUM, UNIT), ("either", NUM, NUM), ("bag", BAG), "num", ["num"]),
    "t": ("x", (), ("x",), NUM, ("name",), ("name", "x", "x"), ("num",), ["name", "x"], ("plus", X), ("Plus", X, X),
        1),
    "i": (True, False, "1", None, GREATEST + 1, -GREATEST - 1, (), ("number", 1)),
    "s": ("=", ">", "<<", "", "is", None, ("<",), 1, "< "),
}


def path_term(path, leaf):
    """A term of plus only, in which a path of 1 and 2 leads to the leaf."""
    for index in path[::-1]:
        leaf = ("plus", leaf, X) if index == 1 else ("plus", X, leaf)
    return leaf


def tower(depth, wrap, leaf=X):
    for _ in range(depth - 1):
        leaf = wrap(leaf)
    return leaf


def of_parts(many):
    """A term of just so many parts, and not deep."""
    if many < 3:
        return X if many == 1 else ("minus", X)
    return ("plus", of_parts((many - 1) // 2), of_parts(many - 1 - (many - 1) // 2))


WRAPS = (
    lambda term: ("fn", "x", NUM, term), lambda term: ("call", term, X), lambda term: ("call", X, term),
    lambda term: ("let", "x", term, X), lambda term: ("let", "x", X, term), lambda term: ("minus", term),
    lambda term: ("left", term, NUM), lambda term: ("right", NUM, term), lambda term: ("case", term, "x", X, "y", X),
    lambda term: ("case", X, "x", term, "y", X), lambda term: ("case", X, "x", X, "y", term),
    lambda term: ("is", "<", term, X), lambda term: ("is", "<", X, term), lambda term: ("pair", X, term),
    lambda term: ("total", X, term), lambda term: ("count", term, X), lambda term: ("support", term),
)


class NamesTest(Case):

    def test_names(self):
        for name in ("a", "z", "x1", "abcdefgh", "a1234567", "fnn", "lets", "inn", "inputs", "cells", "nums", "units",
                "z0",
                     "kind", "term", "name", "bags", "fun", "either"):
            with self.subTest(name):
                self.assertIs(is_name(name), True)
                self.assertIs(is_name(value=name), True)

    def test_no_names(self):
        for thing in ("", "1", "1x", "X", "xY", "x'", "x'1", "abcdefghi", "a12345678", "x ", " x", "x\n", "x_", "x-y",
                "\u00e9",
                      "\u00df", "x\u0661", "\u0661", "a\u0301", "x.", "{", "\uff41", "x" * 300):
            with self.subTest(thing):
                self.assertIs(is_name(thing), False)

    def test_words_are_no_names(self):
        for word in WORDS:
            self.assertIs(is_name(word), False)
            self.assertIs(is_term(("name", word)), False)
            self.assertIs(is_term(("name", word + "'")), False)
        self.assertEqual(len(WORDS), 18)

    def test_what_is_no_text(self):
        for thing in odd_things() + [b"x", ["x"], ("x",), 1]:
            if not isinstance(thing, str) or thing == "":
                self.assertIs(is_name(thing), False)

    def test_marked_names(self):
        for name in ("x'", "x'1", "x'0", "x'00", "x'12345678", "abcdefgh'", "abcdefgh'00000000"):
            with self.subTest(name):
                self.assertIs(is_name(name), False)
                self.assertIs(is_term(("name", name)), True)
                self.assertIs(is_written(("name", name)), False)
        for thing in ("x''", "x'1'", "'", "'x", "x'a", "x'1a", "x'123456789", "abcdefghi'", "X'", "let'", "1'", "x '",
                "x' ", "x'\u0661"):
            with self.subTest(thing):
                self.assertIs(is_term(("name", thing)), False)


class IsTermTest(Case):

    def test_each_word(self):
        for term, _ in WHOLE:
            with self.subTest(term):
                self.assertIs(is_term(term), True)
                self.assertIs(is_term(value=term), True)
                self.assertIs(is_written(term), True)
                self.assertIs(is_written(value=term), True)

    def test_each_element_may_be_what_is_told(self):
        for term, sorts in WHOLE:
            for at, sort in enumerate(sorts, 1):
                for thing in RIGHT[sort]:
                    with self.subTest(term[0], at=at, thing=thing):
                        self.assertIs(is_term(term[:at] + (thing,) + term[at + 1:]), True)

    def test_each_element_may_be_nothing_else(self):
        for term, sorts in WHOLE:
            for at, sort in enumerate(sorts, 1):
                wrong = [thing for thing in odd_things() if sort != "i" or not type(thing) is int]
                for thing in list(WRONG[sort]) + wrong:
                    with self.subTest(term[0], at=at, thing=thing):
                        other = term[:at] + (thing,) + term[at + 1:]
                        self.assertIs(is_term(other), False)
                        self.assertIs(is_written(other), False)
                        self.assertIs(is_term(("minus", other)), False)

    def test_too_few_and_too_many_elements(self):
        for term, _ in WHOLE:
            for other in (term[:-1], term + (X,), term + (NUM,), term + (None,), term[:1], (), term[1:], term + term):
                if other != ("unit",):
                    with self.subTest(other):
                        self.assertIs(is_term(other), False)
                        self.assertIs(is_written(other), False)

    def test_lists_and_other_words(self):
        for term, _ in WHOLE:
            for other in (list(term), ["plus", *term], ("Plus",) + term[1:], (term[0] + " ",) + term[1:],
                    (None,) + term[1:],
                          (Stubborn(),) + term[1:], ([term[0]],) + term[1:], (b"fn",) + term[1:], ("var",) + term[1:],
                          ("",) + term[1:], (True,) + term[1:], {term[0]: 1}, term[0]):
                with self.subTest(other):
                    self.assertIs(is_term(other), False)
                    self.assertIs(is_written(other), False)

    def test_odd_things_are_no_terms(self):
        for thing in odd_things():
            # ("unit",) within odd things is one.
            self.assertIs(is_term(thing), False)
            self.assertIs(is_written(thing), False)

    def test_signs_and_words_are_told_apart(self):
        self.assertIs(is_term(("is", "<", X)), False)
        self.assertIs(is_term(("is", X, "<", Y)), False)
        self.assertIs(is_term(("<", X, Y)), False)
        self.assertIs(is_term(("zero", ("pair", X, Y))), False)
        self.assertIs(is_term(("pair", NUM, NUM)), False)
        self.assertIs(is_term(("left", UNIT, UNIT)), True)


class DepthTest(Case):

    def test_a_hundred_deep(self):
        for wrap in WRAPS:
            for depth in (2, 12, 13, 50, 99, 100):
                term = tower(depth, wrap)
                with self.subTest(term[0], depth=depth):
                    self.assertIs(is_term(term), True)
                    self.assertEqual(depth_of(term), depth)
                    self.assertEqual(depth_of(term=term), depth)

    def test_what_is_deeper_is_none(self):
        for wrap in WRAPS:
            for depth in (101, 102, 200, 295):
                term = tower(depth, wrap)
                with self.subTest(term[0], depth=depth):
                    self.assertIs(is_term(term), False)
                    self.assertIs(is_written(term), False)

    def test_written_is_twelve_deep(self):
        for wrap in WRAPS:
            with self.subTest(wrap(X)[0]):
                self.assertIs(is_written(tower(12, wrap)), True)
                self.assertIs(is_written(tower(13, wrap)), False)

    def test_the_deepest_part_tells(self):
        deep = tower(99, WRAPS[0])
        for term in (("plus", deep, X), ("plus", X, deep), ("case", X, "x", X, "y", deep), ("is", "==", X, deep)):
            self.assertEqual(depth_of(term), 100)
            self.assertIs(is_term(("minus", term)), False)

    def test_depths(self):
        for term, expected in ((X, 1), (ONE, 1), (("unit",), 1), (("zero", nested(50)), 1),
                (("fn", "x", nested(50), X), 2),
                               (("let", "x", X, ("minus", X)), 3), (("left", X, nested(90)), 2),
                               (("case", ("minus", ("minus", X)), "x", X, "y", X), 4)):
            self.assert_same(depth_of(term), expected)


class WrittenTest(Case):

    def test_a_hundred_and_twenty_parts(self):
        for many in range(1, 130):
            term = of_parts(many)
            self.assertEqual(parts_of(term), many)
            self.assertIs(is_written(term), many <= 120)
            self.assertIs(is_term(term), True)
        self.assertIs(is_written(of_parts(3000)), False)

    def test_kinds_six_deep(self):
        for depth, expected in ((6, True), (7, False), (20, False), (100, False)):
            group, kind = nested(depth, ("pair",), NUM, (NUM,)), nested(depth, ("fun",), UNIT, (NUM,))
            for term in (("fn", "x", kind, X), ("left", X, kind), ("right", kind, X), ("zero", group),
                         ("pair", X, ("zero", group)), ("zero", ("bag", group[1])),
                         ("fn", "x", ("bag", group[1]), X)):
                with self.subTest(term[0], depth=depth):
                    self.assertIs(is_written(term), expected)
                    self.assertIs(is_term(term), True)

    def test_marked_names_anywhere(self):
        for term in (("name", "x'"), ("fn", "x'", NUM, X), ("let", "x'", X, X), ("case", X, "x'", X, "y", X),
                     ("case", X, "x", X, "y'1", X), ("plus", X, ("name", "x'")), ("let", "x'", ("name", "x'"), X)):
            self.assertIs(is_term(term), True)
            self.assertIs(is_written(term), False)


class PartsTest(Case):

    def test_how_many(self):
        for term, expected in ((X, 1), (("unit",), 1), (("zero", BAG), 1), (("fn", "x", STEP, X), 2),
                (("plus", X, X), 3),
                               (("case", X, "x", X, "y", ("minus", X)), 5), (("is", "<", X, ("plus", X, ONE)), 5),
                               (("left", ("pair", X, Y), ("pair", NUM, NUM)), 4), (("let", "x", ("unit",), X), 3)):
            self.assert_same(parts_of(term), expected)
            self.assert_same(parts_of(term=term), expected)

    def test_towers(self):
        for wrap in WRAPS:
            each = parts_of(wrap(X)) - 1
            self.assertEqual(parts_of(tower(100, wrap)), 1 + 99 * each)

    def test_many_parts(self):
        term = X
        for _ in range(14):
            term = ("plus", term, term)
        self.assertEqual(parts_of(term), 2 ** 15 - 1)
        self.assertEqual(free_names(term), ("x",))


class FreeNamesTest(Case):

    def test_what_is_bound_where(self):
        for term, expected in (
                (X, ("x",)), (ONE, ()), (("unit",), ()), (("zero", NUM), ()), (("plus", X, Y), ("x", "y")),
                (("plus", Y, X), ("x", "y")),
                (("plus", X, X), ("x",)), (("fn", "x", NUM, X), ()), (("fn", "x", NUM, Y), ("y",)),
                (("fn", "x", NUM, ("plus", X, Y)), ("y",)), (("call", ("fn", "x", NUM, X), X), ("x",)),
                (("let", "x", X, X), ("x",)), (("let", "x", Y, X), ("y",)), (("let", "x", X, Y), ("x", "y")),
                (("let", "x", ONE, X), ()), (("let", "x", ("let", "x", X, X), X), ("x",)),
                (("case", X, "x", X, "y", Y), ("x",)), (("case", ONE, "x", Y, "y", X), ("x", "y")),
                (("case", ONE, "x", X, "y", Y), ()), (("case", ONE, "x", X, "x", X), ()),
                (("case", X, "y", X, "z", Z), ("x",)), (("case", X, "y", Z, "z", Y), ("x", "y", "z")),
                (("fn", "x", NUM, ("fn", "y", NUM, ("plus", X, ("plus", Y, Z)))), ("z",)),
                (("fn", "x", NUM, ("fn", "x", NUM, X)), ()), (("fn", "x", NUM, ("let", "y", X, Y)), ()),
                (("pair", ("fn", "x", NUM, X), X), ("x",)), (("is", "<", X, Y), ("x", "y")),
                (("left", X, NUM), ("x",)),
                (("right", NUM, X), ("x",)), (("total", ("fn", "x", NUM, X), ("name", "b")), ("b",))):
            with self.subTest(term):
                self.assertEqual(free_names(term), expected)
                self.assertEqual(free_names(term=term), expected)

    def test_marked_names_are_others(self):
        mark, more = ("name", "x'"), ("name", "x'1")
        for term, expected in (
                (mark, ("x'",)), (("plus", X, mark), ("x", "x'")), (("fn", "x", NUM, mark), ("x'",)),
                (("fn", "x'", NUM, X), ("x",)), (("fn", "x'", NUM, mark), ()), (("let", "x'", mark, mark), ("x'",)),
                (("plus", more, ("plus", mark, X)), ("x", "x'", "x'1")), (("fn", "x'", NUM, more), ("x'1",)),
                (("fn", "x", NUM, ("fn", "x'", NUM, ("plus", X, mark))), ()),
                (("case", X, "x'", mark, "y", mark), ("x", "x'"))):
            with self.subTest(term):
                self.assertEqual(free_names(term), expected)

    def test_ascending_as_texts_are(self):
        names = ["b", "a", "a1", "a'", "a'1", "z9", "ab", "a10", "a2"]
        term = ("unit",)
        for name in names:
            term = ("pair", ("name", name), term)
        self.assertEqual(free_names(term), tuple(sorted(names)))

    def test_drawn_terms(self):
        for seed in range(300):
            term = Drawer(seed).any_term(6)
            self.assertEqual(free_names(term), tuple(sorted(names_in(term))))

    def test_deep(self):
        term = tower(100, lambda inner: ("fn", "x", NUM, inner), Y)
        self.assertEqual(free_names(term), ("y",))
        self.assertEqual(free_names(tower(100, lambda inner: ("let", "x", X, inner))), ("x",))


class PartAtTest(Case):

    def all_paths(self, term):
        """The pairs (path, part) of a term, by the sorts of its elements."""
        found, sorts = [((), term)], dict((whole[0], told) for whole, told in WHOLE)[term[0]]
        for index, sort in enumerate(sorts, 1):
            if sort == "t":
                found += [((index,) + path, part) for path, part in self.all_paths(term[index])]
        return found

    def test_each_path(self):
        terms = [term for term, _ in WHOLE] + [Drawer(seed).any_term(5) for seed in range(100)]
        for term in terms:
            paths = self.all_paths(term)
            self.assertEqual(parts_of(term), len(paths))
            for path, part in paths:
                self.assertEqual(part_at(term, path), part)
                self.assertEqual(part_at(path=path, term=term), part)
            led = dict(paths)
            for path, _ in paths:
                for index in range(-2, 8):
                    if path + (index,) not in led:
                        self.assertIsNone(part_at(term, path + (index,)))

    def test_paths_to_names_kinds_and_signs(self):
        for term, sorts in WHOLE:
            for index, sort in enumerate(sorts, 1):
                if sort != "t":
                    self.assertIsNone(part_at(term, (index,)))
            self.assertIsNone(part_at(term, (0,)))
            self.assertIsNone(part_at(term, (len(term),)))
        # A kind may look just as a term does.
        self.assertIsNone(part_at(("left", X, UNIT), (2,)))
        self.assertIsNone(part_at(("right", UNIT, X), (1,)))
        self.assertIsNone(part_at(("fn", "x", UNIT, X), (2,)))

    def test_what_is_no_path(self):
        term = ("plus", ("plus", X, Y), Z)
        for path in (None, 0, 1, "", "1", "11", [], [1], [1, 1], {}, {1: 1}, {1}, b"\x01", True, (True,), (1, True),
                ("1",), (None,),
                     ((1,),), (1, (1,)), ([1],), (-1,), (1, -2), (3,), (10 ** 500,), (1, 1, 1), (1, 1, 0),
                     range(1, 2), X, Stubborn(),
                     (Stubborn(),), (1, Stubborn()), object(), nested(300, ("a",), (), ()), (1,) * 300):
            with self.subTest(path=path):
                self.assertIsNone(part_at(term, path))

    def test_deep(self):
        self.assertEqual(part_at(tower(100, WRAPS[0]), (3,) * 99), X)
        self.assertIsNone(part_at(tower(100, WRAPS[0]), (3,) * 100))


class InvalidTermTest(Case):

    CALLS = (parts_of, depth_of, free_names, lambda term: part_at(term, ()), lambda term: part_at(term, None))

    def assert_place(self, term, place):
        for call in self.CALLS:
            with self.subTest(term):
                with self.assertRaises(InvalidTerm) as caught:
                    call(term)
                self.assertEqual(caught.exception.place, place)
                self.assertEqual([type(index) for index in caught.exception.place], [int] * len(place))

    def test_what_is_none_itself(self):
        for thing in odd_things() + [X[:1], X + ("y",), list(X), "x", ("plus", X), ("num",), ("Name", "x")]:
            # One of the odd things looks like pairs within pairs.
            pairs = isinstance(thing, tuple) and len(thing) == 3 and type(thing[0]) is str and thing[0] == "pair"
            self.assert_place(thing, (1,) * 100 if pairs else ())

    def test_the_place_of_one_wrong_element(self):
        for term, sorts in WHOLE:
            for at, sort in enumerate(sorts, 1):
                for thing in WRONG[sort]:
                    other = term[:at] + (thing,) + term[at + 1:]
                    self.assert_place(other, (at,))
                    self.assert_place(path_term((1, 2, 2), other), (1, 2, 2, at))

    def test_the_first_wrong_one_is_told(self):
        for term, place in (
                (("plus", "x", "y"), (1,)), (("plus", X, "y"), (2,)), (("plus", ("minus", "x"), "y"), (1, 1)),
                (("plus", ("plus", X, "x"), "y"), (1, 2)), (("fn", "X", "num", "x"), (1,)),
                (("fn", "x", "num", "x"), (2,)),
                (("fn", "x", NUM, "x"), (3,)), (("let", "x", ("minus", 1), 1), (2, 1)),
                (("let", 1, ("minus", 1), 1), (1,)),
                (("case", ("minus", X), 1, X, 1, X), (2,)), (("case", ("minus", "x"), 1, X, 1, X), (1, 1)),
                (("case", X, "x", ("minus", 1), 1, X), (3, 1)), (("case", X, "x", X, 1, 1), (4,)),
                (("case", X, "x", X, "y", 1), (5,)),
                (("is", ">", 1, 1), (1,)), (("is", "<", 1, 1), (2,)), (("is", "<", X, 1), (3,)),
                (("left", 1, 1), (1,)),
                (("left", X, 1), (2,)), (("right", 1, 1), (1,)), (("right", NUM, 1), (2,)), (("zero", UNIT), (1,)),
                (("pair", ("zero", UNIT), ("number", True)), (1, 1)),
                (("pair", ("zero", NUM), ("number", True)), (2, 1))):
            self.assert_place(term, place)

    def test_a_part_itself_is_told_ahead_of_its_elements(self):
        self.assert_place(("plus", ("plus", 1), 1), (1,))
        self.assert_place(("plus", ("fn", 1, 1), 1), (1,))
        self.assert_place(("fn", 1, 1, 1, 1), ())

    def test_too_deep(self):
        for wrap, index in ((WRAPS[0], 3), (WRAPS[1], 1), (WRAPS[3], 2), (WRAPS[5], 1), (WRAPS[7], 2),
                (WRAPS[11], 2)):
            for depth in (101, 150):
                self.assert_place(tower(depth, wrap), (index,) * 100)
            self.assert_place(tower(100, wrap, 5), (index,) * 99)
            self.assert_place(tower(101, wrap, 5), (index,) * 100)
        # Both names of the last call are too deep; the first of them is told.
        self.assert_place(tower(101, WRAPS[2]), (2,) * 99 + (1,))
        # What is too deep is told in its place: what is wrong ahead of it comes first.
        deep = tower(101, WRAPS[1])
        self.assert_place(("plus", 1, deep), (1,))
        self.assert_place(("plus", deep, 1), (1,) * 100)

    def test_kinds_too_deep(self):
        self.assertEqual(parts_of(("fn", "x", nested(100), X)), 2)
        self.assert_place(("fn", "x", nested(101), X), (2,))
        self.assert_place(("zero", nested(101)), (1,))

    def test_nothing_passed_is_changed(self):
        things = [["plus", X, X], ("plus", [1], {2: 3}), ("fn", ["x"], ["num"], ["y"]), ("name", ["x"])]
        held = copy.deepcopy(things)
        for thing in things:
            self.assertIs(is_term(thing), False)
            self.assertIs(is_written(thing), False)
            for call in self.CALLS:
                self.assertRaises(InvalidTerm, call, thing)
        path = [1, 2]
        self.assertIsNone(part_at(("plus", X, X), path))
        self.assertEqual((things, path), (held, [1, 2]))


if __name__ == "__main__":
    unittest.main()
