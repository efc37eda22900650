"""[5], [6] for values.py: which error is told for what, and in which order."""

import copy
import unittest

from changewise.errors import InvalidKind, InvalidNumber, InvalidPairs, InvalidValue
from changewise.values import (
    bag_of, count_of, is_value, many_of, opposite, order, sum_of, support_of, zero_of,
)
from tests.cases import Case, nested, odd_things

UNIT, NUM = ("unit",), ("num",)
BAG, PAIR, STEP = ("bag", NUM), ("pair", NUM, NUM), ("fun", NUM, NUM)

# A call of each function with nothing wrong, by the names of its arguments in order.
CALLS = (
    (is_value, {"kind": NUM, "value": 1}),
    (order, {"kind": PAIR, "one": ("pair", 1, 2), "two": ("pair", 1, 3)}),
    (zero_of, {"kind": BAG}),
    (sum_of, {"kind": BAG, "one": ((1, 1),), "two": ((2, 1),)}),
    (opposite, {"kind": PAIR, "one": ("pair", 1, 2)}),
    (many_of, {"kind": PAIR, "number": 3, "one": ("pair", 1, 2)}),
    (bag_of, {"kind": BAG, "pairs": ((1, 1),)}),
    (count_of, {"kind": BAG, "bag": ((1, 1),), "value": 1}),
    (support_of, {"kind": BAG, "bag": ((1, 1),)}),
)

# Kinds, but not as each function asks for them.
OTHER_KINDS = {
    is_value: (STEP, ("pair", NUM, STEP), ("fun", BAG, STEP)),
    order: (BAG, STEP, ("pair", NUM, BAG), ("either", STEP, NUM)),
    zero_of: (UNIT, STEP, ("pair", NUM, UNIT), ("either", NUM, NUM), ("pair", STEP, NUM)),
    sum_of: (UNIT, STEP, ("pair", UNIT, NUM), ("either", NUM, NUM)),
    opposite: (UNIT, STEP, ("pair", UNIT, NUM), ("either", NUM, NUM)),
    many_of: (UNIT, STEP, ("pair", UNIT, NUM), ("either", NUM, NUM)),
    bag_of: (NUM, UNIT, PAIR, STEP, ("pair", BAG, BAG), ("either", BAG, BAG)),
    count_of: (NUM, UNIT, PAIR, STEP, ("pair", BAG, BAG)),
    support_of: (NUM, UNIT, PAIR, STEP, ("pair", BAG, BAG)),
}

NO_KINDS = (("int",), ("num", ()), ["num"], ("bag", BAG), ("bag", STEP), ("pair", NUM), "num", None, nested(101))


def wrong_values():
    """What is no value of num, of a pair of these, or of a bag of them."""
    return [thing for thing in odd_things() if not isinstance(thing, int) or isinstance(thing, bool)] + [
        ("left", 1), ("pair", 1), ("pair", 1, True), ["pair", 1, 2], ((1, 0),), ((2, 1), (1, 1)), ((1, 1), (1, 1)),
        ((True, 1),), [(1, 1)], ((1, 1, 1),),
    ]


class WrongArgumentsTest(Case):

    def assert_told_with(self, call, right, wrong, error):
        """One argument, the rest being right, is told, by position and by name."""
        name, thing = wrong
        passed = dict(right)
        passed[name] = thing
        with self.subTest(call.__name__, name=name, thing=thing):
            self.assert_told(error, {"given": thing}, call, **passed)
            self.assert_told(error, {"given": thing}, call, *passed.values())

    def test_the_calls_are_right(self):
        for call, right in CALLS:
            self.assertEqual(repr(call(**right)), repr(call(*right.values())))

    def test_no_kinds(self):
        for call, right in CALLS:
            for thing in list(NO_KINDS) + odd_things():
                self.assert_told_with(call, right, ("kind", thing), InvalidKind)

    def test_kinds_of_another_sort(self):
        for call, right in CALLS:
            for thing in OTHER_KINDS[call]:
                self.assert_told_with(call, right, ("kind", thing), InvalidKind)

    def test_no_values(self):
        for call, right in CALLS:
            for name in ("one", "two", "value", "bag"):
                if name in right and call is not is_value:
                    for thing in wrong_values():
                        self.assert_told_with(call, right, (name, thing), InvalidValue)

    def test_values_of_other_kinds(self):
        for call, kind, name, thing in (
                (order, NUM, "one", ()), (order, UNIT, "one", 0), (sum_of, NUM, "two", ()), (sum_of, BAG, "two", 0),
                (opposite, PAIR, "one", 1), (opposite, NUM, "one", ("pair", 1, 2)), (many_of, BAG, "one", 0),
                (count_of, BAG, "value", ()), (count_of, BAG, "value", ((1, 1),)), (support_of, BAG, "bag", 0),
                (count_of, ("bag", UNIT), "bag", ((1, 1),)), (count_of, ("bag", UNIT), "value", 1)):
            right = {"kind": kind, "number": 1, "bag": (), "value": 1}
            for other in ("one", "two"):
                right[other] = {"num": 0, "unit": (), "bag": (), "pair": ("pair", 1, 1)}[kind[0]]
            passed = {each: right[each] for each in dict(CALLS)[call]}
            self.assert_told_with(call, passed, (name, thing), InvalidValue)

    def test_no_numbers(self):
        for thing in odd_things() + [(), (1,), "1", [1]]:
            if not isinstance(thing, int) or isinstance(thing, bool):
                for kind, one in ((NUM, 1), (BAG, ((1, 1),)), (PAIR, ("pair", 1, 2))):
                    right = {"kind": kind, "number": 1, "one": one}
                    self.assert_told_with(many_of, right, ("number", thing), InvalidNumber)


class FirstWrongTest(Case):

    def test_the_first_in_the_order_of_the_signature_is_told(self):
        bad = ["no kind"], ["no value"], ["nor this"]
        for call, right in CALLS:
            for first in range(len(right)):
                names = list(right)
                passed = {name: right[name] if at < first else bad[at] for at, name in enumerate(names)}
                error = self.error_of(names[first])
                if call is is_value and first > 0:
                    continue
                with self.subTest(call.__name__, first=names[first]):
                    told = {"index": None} if error is InvalidPairs else {"given": bad[first]}
                    self.assert_told(error, told, call, **passed)
                    turned = {name: passed[name] for name in names[::-1]}
                    self.assert_told(error, told, call, **turned)

    def error_of(self, name):
        return {"kind": InvalidKind, "number": InvalidNumber, "pairs": InvalidPairs}.get(name, InvalidValue)

    def test_a_number_is_told_ahead_of_the_value(self):
        self.assert_told(InvalidNumber, {"given": True}, many_of, NUM, True, False)
        self.assert_told(InvalidNumber, {"given": True}, many_of, one=False, number=True, kind=NUM)

    def test_a_bag_is_told_ahead_of_the_value_counted(self):
        bad = ((2, 1), (1, 1))
        self.assert_told(InvalidValue, {"given": bad}, count_of, BAG, bad, True)
        self.assert_told(InvalidValue, {"given": True}, count_of, BAG, bad[::-1], True)

    def test_a_kind_that_is_not_as_told_comes_ahead_of_all(self):
        self.assert_told(InvalidKind, {"given": BAG}, order, BAG, True, True)
        self.assert_told(InvalidKind, {"given": UNIT}, many_of, UNIT, True, 3)
        self.assert_told(InvalidKind, {"given": PAIR}, bag_of, PAIR, ((1, True),))
        self.assert_told(InvalidKind, {"given": STEP}, is_value, STEP, True)


class PairsTest(Case):

    def test_no_tuple_is_wrong_as_a_whole(self):
        for thing in (None, True, 0, "", "ab", [], [(1, 1)], {}, {1: 1}, {(1, 1)}, b"", range(2), zip((1,), (1,))):
            with self.subTest(thing=thing):
                self.assert_told(InvalidPairs, {"index": None}, bag_of, BAG, thing)
                self.assert_told(InvalidPairs, {"index": None}, bag_of, kind=BAG, pairs=thing)

    def test_the_first_wrong_pair_is_told(self):
        right = ((5, 1), (1, 0), (5, -1), (0, 10 ** 500))
        wrong = [thing for thing in odd_things() if thing is not right] + [
            (), (1,), (1, 2, 3), [1, 2], (True, 1), (1, True), (1, None), ("1", 1), ((), 1), (("pair", 1, 1), 1),
            (1, "1"), (1, ()), (1, False), {1: 1}, "ab", 3,
        ]
        for thing in wrong:
            for at in range(len(right) + 1):
                with self.subTest(thing=thing, at=at):
                    pairs = right[:at] + (thing,) + right[at:]
                    self.assert_told(InvalidPairs, {"index": at}, bag_of, BAG, pairs)
                    self.assert_told(InvalidPairs, {"index": at}, bag_of, BAG, pairs + (None, thing))

    def test_pairs_of_other_kinds(self):
        pairs = ((("left", 1), 1), (("right", ()), 1), (("right", 1), 1))
        self.assert_told(InvalidPairs, {"index": 2}, bag_of, ("bag", ("either", NUM, UNIT)), pairs)
        self.assert_told(InvalidPairs, {"index": 0}, bag_of, ("bag", UNIT), ((1, 1),))
        self.assert_told(InvalidPairs, {"index": 1}, bag_of, ("bag", PAIR), ((("pair", 1, 1), 1), (("pair", 1), 1)))


class NothingChangedTest(Case):

    def test_what_was_passed_is_as_it_was(self):
        things = [["num"], [(1, 1), (1, 1)], {1: [2]}, {1, 2}, ("pair", [1], {2: 3}), ([1], [2])]
        held = copy.deepcopy(things)
        for call, right in CALLS:
            for name in right:
                for thing in things:
                    passed = dict(right)
                    passed[name] = thing
                    try:
                        call(**passed)
                    except (InvalidKind, InvalidNumber, InvalidPairs, InvalidValue):
                        pass
        self.assertEqual(things, held)

    def test_a_second_call_gives_the_same(self):
        for call, right in CALLS:
            held = copy.deepcopy(right)
            first = call(**right)
            self.assert_same(call(**right), first)
            self.assert_same(right, held)


if __name__ == "__main__":
    unittest.main()
