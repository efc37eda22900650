"""[A2], [A3] and values.py: what is told of ordinary values and at the edges."""

import unittest

from changewise.kinds import TRUTH
from changewise.values import (
    bag_of, count_of, is_value, many_of, opposite, order, sum_of, support_of, zero_of,
)
from tests.cases import Case, nested, odd_things

UNIT, NUM = ("unit",), ("num",)
BAG, PAIR, EITHER = ("bag", NUM), ("pair", NUM, NUM), ("either", NUM, UNIT)
PAIRS, SIDES, UNITS = ("bag", PAIR), ("bag", EITHER), ("bag", UNIT)
GREAT = 10 ** 399

VALUES = (
    (UNIT, ()), (NUM, 0), (NUM, -1), (NUM, GREAT), (NUM, -GREAT), (PAIR, ("pair", 2, -1)), (EITHER, ("left", 3)),
    (EITHER, ("right", ())), (TRUTH, ("left", ())), (TRUTH, ("right", ())), (BAG, ()), (BAG, ((1, 1),)),
    (BAG, ((-2, -5), (0, 1), (GREAT, GREAT))), (UNITS, (((), -3),)), (PAIRS, ((("pair", 1, 2), 1), (("pair", 2, 1), 1))),
    (SIDES, ((("left", 7), 1), (("right", ()), 1))), (("pair", BAG, UNIT), ("pair", ((1, 1),), ())),
    (("either", BAG, NUM), ("left", ())), (("either", BAG, NUM), ("right", 0)), (("either", NUM, BAG), ("right", ())),
    (("pair", EITHER, ("pair", NUM, BAG)), ("pair", ("right", ()), ("pair", 0, ()))),
)

NO_VALUES = (
    (UNIT, 0), (UNIT, ((),)), (UNIT, "unit"), (UNIT, UNIT), (UNIT, (1,)), (NUM, True), (NUM, False), (NUM, ()),
    (NUM, "1"), (NUM, (1,)), (NUM, NUM), (NUM, [1]),
    (PAIR, ("pair", 1)), (PAIR, ("pair", 1, 2, 3)), (PAIR, ("pair", 1, True)), (PAIR, ("pair", False, 1)),
    (PAIR, ["pair", 1, 2]), (PAIR, (1, 2)), (PAIR, ("left", 1, 2)), (PAIR, ("Pair", 1, 2)), (PAIR, ("pair", (), 1)),
    (PAIR, ("pair",)), (PAIR, ()), (PAIR, PAIR),
    (EITHER, ("left", ())), (EITHER, ("right", 3)), (EITHER, ("left",)), (EITHER, ("left", 1, 2)), (EITHER, ("middle", 1)),
    (EITHER, ("right", (), ())), (EITHER, ["left", 1]), (EITHER, ("left", True)), (EITHER, ()), (EITHER, 3),
    (EITHER, "left"), (TRUTH, True), (TRUTH, False), (TRUTH, ("left", True)),
    (BAG, 0), (BAG, (1,)), (BAG, (1, 1)), (BAG, ((1,),)), (BAG, ((1, 1, 1),)), (BAG, ([1, 1],)), (BAG, [(1, 1)]), (BAG, {1: 1}),
    (BAG, ((1, 0),)), (BAG, ((1, 1), (2, 0))), (BAG, ((1, True),)), (BAG, ((True, 1),)), (BAG, ((1, "1"),)),
    (BAG, ((1, None),)), (BAG, ((1, False),)), (BAG, ((2, 1), (1, 1))), (BAG, ((1, 1), (1, 2))), (BAG, ((1, 1), (1, 1))),
    (BAG, ((1, 1), (3, 1), (2, 1))), (BAG, ((1, 2), (2, 1), (2, -1))), (BAG, ((("pair", 1, 1), 1),)), (BAG, ((), ())),
    (PAIRS, ((("pair", 2, 1), 1), (("pair", 1, 2), 1))), (PAIRS, ((("pair", 1, 2), 1), (("pair", 1, 1), 1))),
    (PAIRS, ((("pair", 1, True), 1),)), (PAIRS, ((1, 1),)),
    (SIDES, ((("right", ()), 1), (("left", 7), 1))), (SIDES, ((("left", 8), 1), (("left", 7), 1))),
    (UNITS, (((), 1), ((), 1))), (UNITS, (((), 0),)), (("pair", BAG, UNIT), ("pair", ((2, 1), (1, 1)), ())),
    (("either", BAG, NUM), ("left", ((1, 0),))), (("pair", NUM, ("pair", NUM, BAG)), ("pair", 0, ("pair", 0, 0))),
)

# Plain kinds with values of theirs, from the one that is ahead of all others on.
ROWS = (
    (UNIT, ((),)),
    (NUM, (-GREAT, -10, -9, -1, 0, 1, 2, 9, 10, GREAT)),
    (PAIR, (("pair", -1, 9), ("pair", 0, -5), ("pair", 0, 5), ("pair", 1, -GREAT), ("pair", 1, 0), ("pair", 10, 0))),
    (TRUTH, (("left", ()), ("right", ()))),
    (EITHER, (("left", -3), ("left", 0), ("left", GREAT), ("right", ()))),
    (("either", NUM, NUM), (("left", 5), ("left", 6), ("right", -6), ("right", -5))),
    (("either", TRUTH, NUM), (("left", ("left", ())), ("left", ("right", ())), ("right", 0))),
    (("pair", EITHER, NUM), (
        ("pair", ("left", 1), 9), ("pair", ("left", 2), -9), ("pair", ("right", ()), -10), ("pair", ("right", ()), 9))),
    (("pair", NUM, EITHER), (
        ("pair", 1, ("left", 4)), ("pair", 1, ("right", ())), ("pair", 2, ("left", -4)), ("pair", 2, ("right", ())))),
    (("either", PAIR, PAIR), (
        ("left", ("pair", 1, 2)), ("left", ("pair", 2, 1)), ("right", ("pair", 0, 2)), ("right", ("pair", 0, 3)))),
    (("pair", UNIT, ("pair", NUM, NUM)), (("pair", (), ("pair", 0, 1)), ("pair", (), ("pair", 1, 0)))),
)


class IsValueTest(Case):

    def test_values(self):
        for kind, value in VALUES:
            with self.subTest(kind, value=value):
                self.assertIs(is_value(kind, value), True)
                self.assertIs(is_value(kind=kind, value=value), True)

    def test_no_values(self):
        for kind, value in NO_VALUES:
            with self.subTest(kind, value=value):
                self.assertIs(is_value(kind, value), False)

    def test_odd_things_are_no_values(self):
        for thing in odd_things():
            for kind in (UNIT, PAIR, EITHER, TRUTH, BAG, PAIRS, UNITS, ("pair", UNIT, UNIT)):
                with self.subTest(kind, thing=thing):
                    self.assertIs(is_value(kind, thing), False)

    def test_odd_things_within_values(self):
        for thing in odd_things():
            if not isinstance(thing, int) or isinstance(thing, bool):
                for kind, value in ((NUM, thing), (PAIR, ("pair", 1, thing)), (PAIR, ("pair", thing, 1)),
                                    (EITHER, ("left", thing)), (EITHER, ("right", thing)), (BAG, (thing,)),
                                    (BAG, ((1, thing),)), (BAG, ((thing, 1),)), (BAG, ((1, 1), thing))):
                    with self.subTest(kind, value=value):
                        self.assertIs(is_value(kind, value), False)

    def test_unit_and_the_empty_bag_have_one_value(self):
        self.assertTrue(is_value(UNIT, ()) and is_value(BAG, ()))
        self.assertFalse(is_value(NUM, ()) or is_value(PAIR, ()) or is_value(EITHER, ()))

    def test_order_in_a_bag_is_that_of_the_plain_kind(self):
        for kind, row in ROWS:
            bag = tuple((value, 1) for value in row)
            self.assertIs(is_value(("bag", kind), bag), True)
            for at in range(len(row) - 1):
                swapped = bag[:at] + (bag[at + 1], bag[at]) + bag[at + 2:]
                self.assertIs(is_value(("bag", kind), swapped), False)
                self.assertIs(is_value(("bag", kind), bag[:at] + (bag[at],) + bag[at:]), False)

    def test_a_hundred_deep(self):
        pairs, value = nested(100, ("pair",), NUM, (UNIT,)), nested(100, ("pair",), 5, ((),))
        sides, left = nested(100, ("either",), NUM, (UNIT,)), nested(100, ("left",), 5, ())
        self.assertIs(is_value(pairs, value), True)
        self.assertIs(is_value(sides, left), True)
        self.assertIs(is_value(pairs, nested(99, ("pair",), 5, ((),))), False)
        self.assertIs(is_value(pairs, nested(101, ("pair",), 5, ((),))), False)
        self.assertIs(is_value(pairs, nested(300, ("pair",), 5, ((),))), False)
        self.assertIs(is_value(sides, nested(300, ("left",), 5, ())), False)
        self.assertIs(is_value(pairs, nested(100, ("pair",), True, ((),))), False)


class OrderTest(Case):

    def test_the_order_is_one_row(self):
        for kind, row in ROWS:
            for one, first in enumerate(row):
                for two, second in enumerate(row):
                    with self.subTest(kind, one=first, two=second):
                        expected = 0 if one == two else -1 if one < two else 1
                        self.assert_same(order(kind, first, second), expected)

    def test_by_name(self):
        self.assertEqual(order(two=1, one=2, kind=NUM), 1)

    def test_deep_values(self):
        kind = nested(100, ("pair", UNIT), NUM, ())
        one, two = nested(100, ("pair", ()), 1, ()), nested(100, ("pair", ()), 2, ())
        self.assertEqual([order(kind, one, two), order(kind, two, one), order(kind, one, one)], [-1, 1, 0])


class GroupsTest(Case):

    def test_zero(self):
        for kind, zero in ((NUM, 0), (BAG, ()), (PAIR, ("pair", 0, 0)), (("pair", NUM, BAG), ("pair", 0, ())),
                           (("pair", ("pair", BAG, NUM), NUM), ("pair", ("pair", (), 0), 0))):
            self.assert_same(zero_of(kind), zero)
            self.assert_same(zero_of(kind=kind), zero)

    def test_sums(self):
        for kind, one, two, expected in (
                (NUM, 2, 3, 5), (NUM, GREAT, 1, GREAT + 1), (NUM, GREAT, -GREAT, 0),
                (BAG, ((1, 2), (3, 1)), ((2, 5),), ((1, 2), (2, 5), (3, 1))),
                (BAG, ((1, 2), (3, 1)), ((1, -2), (3, 1)), ((3, 2),)), (BAG, ((1, 1),), (), ((1, 1),)),
                (BAG, (), (), ()), (BAG, ((1, 1),), ((-1, 1),), ((-1, 1), (1, 1))),
                (BAG, ((1, GREAT),), ((1, -GREAT + 1),), ((1, 1),)), (UNITS, (((), 2),), (((), 3),), (((), 5),)),
                (SIDES, ((("right", ()), 1),), ((("left", 9), 1),), ((("left", 9), 1), (("right", ()), 1))),
                (PAIR, ("pair", 1, 2), ("pair", 30, 40), ("pair", 31, 42)),
                (("pair", BAG, NUM), ("pair", ((1, 1),), 2), ("pair", ((1, -1),), 3), ("pair", (), 5))):
            with self.subTest(kind, one=one, two=two):
                self.assert_same(sum_of(kind, one, two), expected)
                self.assert_same(sum_of(two=two, kind=kind, one=one), expected)

    def test_opposites(self):
        for kind, one, expected in (
                (NUM, 3, -3), (NUM, 0, 0), (NUM, -GREAT, GREAT), (BAG, (), ()), (BAG, ((1, 2), (5, -1)), ((1, -2), (5, 1))),
                (PAIR, ("pair", 1, -2), ("pair", -1, 2)),
                (("pair", NUM, BAG), ("pair", 4, ((-7, 1),)), ("pair", -4, ((-7, -1),)))):
            with self.subTest(kind, one=one):
                self.assert_same(opposite(kind, one), expected)
                self.assert_same(opposite(one=one, kind=kind), expected)

    def test_so_many_times(self):
        for kind, number, one, expected in (
                (NUM, 3, 4, 12), (NUM, 0, 4, 0), (NUM, -2, 4, -8), (NUM, GREAT, GREAT, GREAT * GREAT),
                (BAG, 0, ((1, 2),), ()), (BAG, 1, ((1, 2),), ((1, 2),)), (BAG, -3, ((1, 2), (2, -1)), ((1, -6), (2, 3))),
                (BAG, 5, (), ()), (PAIR, 2, ("pair", 1, -1), ("pair", 2, -2)),
                (("pair", BAG, NUM), 0, ("pair", ((1, 2),), 7), ("pair", (), 0)),
                (("pair", BAG, ("pair", NUM, NUM)), -1, ("pair", ((1, 2),), ("pair", 7, 0)),
                 ("pair", ((1, -2),), ("pair", -7, 0)))):
            with self.subTest(kind, number=number, one=one):
                self.assert_same(many_of(kind, number, one), expected)
                self.assert_same(many_of(number=number, one=one, kind=kind), expected)

    def test_a_hundred_deep(self):
        kind = nested(100, ("pair", NUM), NUM, ())
        value, twice = nested(100, ("pair", 3), 4, ()), nested(100, ("pair", 6), 8, ())
        self.assertEqual(zero_of(kind), nested(100, ("pair", 0), 0, ()))
        self.assertEqual(sum_of(kind, value, value), twice)
        self.assertEqual(many_of(kind, 2, value), twice)
        self.assertEqual(sum_of(kind, value, opposite(kind, value)), zero_of(kind))


class BagsTest(Case):

    def test_bag_of(self):
        for kind, pairs, expected in (
                (BAG, (), ()), (BAG, ((3, 1),), ((3, 1),)), (BAG, ((3, 1), (1, 1), (2, 1)), ((1, 1), (2, 1), (3, 1))),
                (BAG, ((7, 1), (7, -1)), ()), (BAG, ((7, 0),), ()), (BAG, ((7, 0), (7, 2), (6, 0)), ((7, 2),)),
                (BAG, ((1, 5), (2, 1), (1, -2), (2, -1), (1, 1)), ((1, 4),)), (BAG, ((1, -1), (1, -1)), ((1, -2),)),
                (BAG, ((10, 1), (9, 1), (-10, 1), (-9, 1)), ((-10, 1), (-9, 1), (9, 1), (10, 1))),
                (UNITS, (((), 2), ((), 3)), (((), 5),)), (BAG, ((GREAT, GREAT), (GREAT, 1 - GREAT)), ((GREAT, 1),)),
                (SIDES, ((("right", ()), 1), (("left", 2), 1), (("right", ()), 1)), ((("left", 2), 1), (("right", ()), 2)))):
            with self.subTest(kind, pairs=pairs):
                self.assert_same(bag_of(kind, pairs), expected)
                self.assert_same(bag_of(pairs=pairs, kind=kind), expected)

    def test_bag_of_takes_each_order_of_the_pairs(self):
        for plain, row in ROWS:
            bag = tuple((value, many) for many, value in enumerate(row, 1))
            self.assertEqual(bag_of(("bag", plain), bag[::-1]), bag)
            self.assertEqual(bag_of(("bag", plain), bag[1::2] + bag[::2]), bag)
            doubled = tuple((value, 2 * many) for value, many in bag)
            self.assertEqual(bag_of(("bag", plain), bag + bag[::-1]), doubled)

    def test_bag_of_makes_values(self):
        pairs = tuple(((7 * at) % 11, at % 5 - 2) for at in range(200))
        made = bag_of(BAG, pairs)
        self.assertIs(is_value(BAG, made), True)
        for value in range(-1, 12):
            self.assertEqual(count_of(BAG, made, value), sum(many for held, many in pairs if held == value))

    def test_bag_of_a_bag_is_the_bag(self):
        for kind, value in VALUES:
            if kind[0] == "bag":
                self.assertEqual(bag_of(kind, value), value)

    def test_counts(self):
        bag = ((-3, 4), (1, -2), (GREAT, GREAT))
        for value, expected in ((-3, 4), (1, -2), (GREAT, GREAT), (0, 0), (-4, 0), (2, 0), (GREAT + 1, 0)):
            self.assert_same(count_of(BAG, bag, value), expected)
            self.assert_same(count_of(value=value, bag=bag, kind=BAG), expected)
        self.assert_same(count_of(BAG, (), 1), 0)
        self.assert_same(count_of(SIDES, ((("left", 1), 2),), ("right", ())), 0)
        self.assert_same(count_of(UNITS, (((), -9),), ()), -9)

    def test_supports(self):
        for kind, bag, expected in (
                (BAG, (), ()), (BAG, ((1, 5),), ((1, 1),)), (BAG, ((1, -5),), ()), (BAG, ((1, 1), (2, -1), (3, 7)), ((1, 1), (3, 1))),
                (SIDES, ((("left", 1), -2), (("right", ()), GREAT)), ((("right", ()), 1),))):
            self.assert_same(support_of(kind, bag), expected)
            self.assert_same(support_of(bag=bag, kind=kind), expected)

    def test_bags_of_deep_values(self):
        plain = nested(99, ("either", UNIT), NUM, ())
        low, high = nested(99, ("right",), 1, ()), nested(99, ("right",), 2, ())
        bag = ((low, 3), (high, 1))
        self.assertEqual(bag_of(("bag", plain), ((high, 1), (low, 1), (low, 2))), bag)
        self.assertIs(is_value(("bag", plain), bag), True)
        self.assertIs(is_value(("bag", plain), bag[::-1]), False)
        self.assertEqual(count_of(("bag", plain), bag, low), 3)
        self.assertEqual(support_of(("bag", plain), bag), ((low, 1), (high, 1)))


if __name__ == "__main__":
    unittest.main()
