"""[C1] to [C7] and changes.py: changes of values of data kinds, and the laws told of them."""

import copy
import unittest

from changewise.changes import (
    are_alike, back, change_kind, changes_nothing, fits, is_change, joined, led, led_term, less, less_term, nothing,
    nothing_term, settled,
)
from changewise.errors import InvalidChange, InvalidKind, InvalidValue, NotFitting
from changewise.kinds import depth_of_kind, is_data_kind, is_group_kind, is_kind
from changewise.text import read_kind, show_kind
from changewise.values import is_value, opposite, sum_of, zero_of
from tests import oracle
from tests.asking import AskingCase, given
from tests.cases import Stubborn, nested, odd_things
from tests.drawing import Drawer

NUM, UNIT = ("num",), ("unit",)
BAG, STEP, SIDES = ("bag", NUM), ("fun", NUM, NUM), ("either", NUM, UNIT)


def kinds_up_to(depth):
    """All data kinds up to so deep."""
    if depth == 1:
        return [UNIT, NUM]
    inner = kinds_up_to(depth - 1)
    found = [UNIT, NUM] + [(word, one, two) for word in ("pair", "either") for one in inner for two in inner]
    return found + [("bag", kind) for kind in inner if oracle.is_plain(kind)]


KINDS = kinds_up_to(3)


def any_change(drawer, kind):
    """A change of the kind, for whatever value."""
    return drawer.value(oracle.changes(kind))


class KindsOfChangesTest(AskingCase):

    def test_each_row(self):
        for text, expected in (
                ("unit", "unit"), ("num", "num"), ("bag (num | unit)", "bag (num | unit)"), ("(num, unit)", "(num, unit)"),
                ("num | unit", "num | unit | (num | unit)"), ("num -> bag num", "num -> num -> bag num"),
                ("(num | unit) -> num", "num | unit -> num | unit | (num | unit) -> num"),
                ("(num -> num) -> unit", "(num -> num) -> (num -> num -> num) -> unit"),
                ("(num -> num, num | num)", "(num -> num -> num, num | num | (num | num))"),
                ("(num -> num) | unit", "(num -> num -> num) | unit | ((num -> num) | unit)")):
            with self.subTest(text):
                self.assertEqual(show_kind(change_kind(read_kind(text))), expected)
                self.assertEqual(change_kind(kind=read_kind(text)), oracle.changes(read_kind(text)))

    def test_drawn_kinds(self):
        for kind in KINDS + [Drawer(seed).kind(6) for seed in range(500)]:
            found = change_kind(kind)
            self.assertEqual(found, oracle.changes(kind))
            self.assertTrue(is_kind(found))
            self.assertLessEqual(depth_of_kind(found), 2 * depth_of_kind(kind) - 1)
            self.assertEqual(is_data_kind(found), is_data_kind(kind))
            self.assertEqual(found == kind, oracle.is_group(kind) or oracle.changes(kind) == kind)
            if is_group_kind(kind):
                self.assertEqual(found, kind)

    def test_the_bound_is_met(self):
        self.assertEqual(depth_of_kind(change_kind(nested(6, ("either",), NUM, (NUM,)))), 11)


class IsChangeTest(AskingCase):

    def test_changes_are_values_of_the_kind_of_changes(self):
        for at, kind in enumerate(KINDS):
            drawer = Drawer(at)
            for _ in range(4):
                change = any_change(drawer, kind)
                self.assertIs(is_change(kind, change), True)
                self.assertIs(is_change(thing=change, kind=kind), True)
                for other in bent(change):
                    with self.subTest(kind, other=other):
                        self.assertIs(is_change(kind, other), oracle.is_value(oracle.changes(kind), other))

    def test_whatever_is_passed(self):
        for kind in KINDS:
            for thing in odd_things() + [Stubborn(), [], (True,), ((1, 0),), ((2, 1), (1, 1)), [(1, 1)], None, True]:
                expected = isinstance(thing, int) and not isinstance(thing, bool) and kind == NUM
                self.assertIs(is_change(kind, thing), expected)

    def test_sides(self):
        for thing, expected in (
                (("left", ("left", 4)), True), (("left", ("right", ())), True), (("right", ("left", 4)), True),
                (("right", ("right", ())), True), (("left", 4), False), (("right", ()), False), (("left", ("left", ())), False),
                (("left", ("right", 4)), False), (("left", ("left", True)), False), (("left", ["left", 4]), False),
                (["left", ("left", 4)], False), (("left", ("left", 4), ()), False), (("Left", ("left", 4)), False),
                (("left", ("left", ("left", 4))), False), (("left",), False), (4, False), ((), False), (None, False)):
            with self.subTest(thing):
                self.assertIs(is_change(SIDES, thing), expected)


def bent(thing):
    """Things that are nearly what is passed."""
    found = [[thing], (thing,), None, True, ("left", thing), ("right", thing)]
    if isinstance(thing, tuple):
        found += [list(thing), thing + (0,), thing[:-1], thing[::-1], thing + thing]
        for at, part in enumerate(thing):
            found += [thing[:at] + (other,) + thing[at + 1:] for other in bent(part)[:8]]
    elif isinstance(thing, int):
        found += [thing + 1, 0, True, str(thing)]
    elif isinstance(thing, str):
        found += ["left", "right", "pair", thing + " "]
    return found


class ChangesTest(AskingCase):

    def rows(self, many=6):
        """A kind, a value, and three changes that fit one behind the other."""
        for at, kind in enumerate(KINDS):
            drawer = Drawer(at)
            for _ in range(many):
                value = drawer.value(kind)
                changes, now = [], value
                for _ in range(3):
                    changes.append(drawer.fitting(kind, now))
                    now = oracle.led(kind, now, changes[-1])
                yield drawer, kind, value, changes

    def test_against_a_second_reckoning(self):
        for drawer, kind, value, (one, two, _) in self.rows():
            other, odd = drawer.value(kind), any_change(drawer, kind)
            self.assert_same(fits(kind, value, one), True)
            self.assert_same(led(kind, value, one), oracle.led(kind, value, one))
            self.assert_same(less(kind, other, value), oracle.less(kind, other, value))
            self.assert_same(nothing(kind, value), oracle.less(kind, value, value))
            self.assert_same(joined(kind, value, one, two), oracle.joined(kind, value, one, two))
            behind = oracle.led(kind, value, one)
            self.assert_same(settled(kind, value, one), oracle.less(kind, behind, value))
            self.assert_same(back(kind, value, one), oracle.less(kind, value, behind))
            # Whether it fits or not.
            self.assert_same(fits(kind, value, odd), oracle.fits(kind, value, odd))
            self.assert_same(led(kind, value, odd), oracle.led(kind, value, odd))
            self.assert_same(changes_nothing(kind, value, odd),
                             oracle.fits(kind, value, odd) and oracle.led(kind, value, odd) == value)
            self.assert_same(are_alike(kind, value, one, odd),
                             oracle.fits(kind, value, odd) and behind == oracle.led(kind, value, odd))

    def test_by_name(self):
        for drawer, kind, value, (one, two, _) in self.rows(1):
            self.assert_same(fits(change=one, value=value, kind=kind), True)
            self.assert_same(led(change=one, value=value, kind=kind), led(kind, value, one))
            self.assert_same(less(old=value, new=value, kind=kind), nothing(value=value, kind=kind))
            self.assert_same(settled(change=one, value=value, kind=kind), settled(kind, value, one))
            self.assert_same(are_alike(two=one, one=one, value=value, kind=kind), True)
            self.assert_same(changes_nothing(change=one, value=value, kind=kind), changes_nothing(kind, value, one))
            self.assert_same(joined(two=two, one=one, value=value, kind=kind), joined(kind, value, one, two))
            self.assert_same(back(change=one, value=value, kind=kind), back(kind, value, one))

    def test_each_change_fits_some_value(self):
        for at, kind in enumerate(KINDS):
            drawer = Drawer(at)
            for _ in range(5):
                change = any_change(drawer, kind)
                self.assertIs(fits(kind, some_value(kind, change), change), True)

    def test_what_is_led_is_a_value_again(self):
        for drawer, kind, value, (one, _, _) in self.rows(3):
            odd = any_change(drawer, kind)
            for change in (one, odd):
                self.assertTrue(is_value(kind, led(kind, value, change)))

    def test_differences(self):
        for drawer, kind, value, _ in self.rows():
            other = drawer.value(kind)
            change = less(kind, other, value)
            self.assertTrue(is_change(kind, change))
            self.assertIs(fits(kind, value, change), True)
            self.assert_same(led(kind, value, change), other)
            still = nothing(kind, value)
            self.assert_same(still, less(kind, value, value))
            self.assertIs(fits(kind, value, still), True)
            self.assert_same(led(kind, value, still), value)
            self.assertIs(changes_nothing(kind, value, still), True)
            self.assertIs(changes_nothing(kind, value, change), other == value)

    def test_group_kinds(self):
        for at, kind in enumerate([kind for kind in KINDS if is_group_kind(kind)] * 5):
            drawer = Drawer(at)
            value, one, two = drawer.value(kind), drawer.value(kind), drawer.value(kind)
            self.assertTrue(is_change(kind, one))
            self.assertIs(fits(kind, value, one), True)
            self.assert_same(led(kind, value, one), sum_of(kind, value, one))
            self.assert_same(less(kind, one, value), sum_of(kind, one, opposite(kind, value)))
            self.assert_same(nothing(kind, value), zero_of(kind))
            both = led(kind, led(kind, value, one), two)
            self.assert_same(both, led(kind, value, sum_of(kind, one, two)))
            self.assert_same(both, led(kind, led(kind, value, two), one))
            self.assert_same(joined(kind, value, one, two), sum_of(kind, one, two))

    def test_settled(self):
        for drawer, kind, value, (one, _, _) in self.rows():
            once = settled(kind, value, one)
            self.assertIs(are_alike(kind, value, one, once), True)
            self.assert_same(settled(kind, value, once), once)
            other = drawer.fitting(kind, value)
            alike = led(kind, value, one) == led(kind, value, other)
            self.assertIs(are_alike(kind, value, one, other), alike)
            self.assertEqual(once == settled(kind, value, other), alike)
            difference = less(kind, drawer.value(kind), value)
            self.assert_same(settled(kind, value, difference), difference)
            self.assertEqual(changes_nothing(kind, value, one), once == nothing(kind, value))

    def test_alike_changes_told_otherwise(self):
        for drawer, kind, value, (one, _, _) in self.rows(3):
            whole = told_whole(kind, value, one)
            self.assertIs(are_alike(kind, value, one, whole), True)
            self.assert_same(settled(kind, value, whole), settled(kind, value, one))

    def test_one_behind_the_other(self):
        for _, kind, value, (one, two, three) in self.rows():
            behind = led(kind, value, one)
            both = joined(kind, value, one, two)
            self.assertIs(fits(kind, value, both), True)
            self.assert_same(led(kind, value, both), led(kind, behind, two))
            self.assert_same(joined(kind, value, both, three),
                             joined(kind, value, one, joined(kind, behind, two, three)))
            self.assert_same(joined(kind, value, nothing(kind, value), one), one)
            self.assert_same(joined(kind, value, one, nothing(kind, behind)), one)

    def test_the_change_back(self):
        for _, kind, value, (one, _, _) in self.rows():
            behind = led(kind, value, one)
            returning = back(kind, value, one)
            self.assertIs(fits(kind, behind, returning), True)
            self.assert_same(led(kind, behind, returning), value)
            self.assertIs(changes_nothing(kind, value, joined(kind, value, one, returning)), True)

    def test_sides_case_by_case(self):
        left, right = ("left", 3), ("right", ())
        up, stay, new_left, new_right = (("left", ("left", 4)), ("left", ("right", ())), ("right", ("left", 1)),
                                         ("right", right))
        for value, one, two, expected in (
                (left, up, up, ("left", ("left", 8))), (left, up, new_left, new_left), (left, new_left, up, ("right", ("left", 5))),
                (left, new_right, stay, new_right), (left, new_right, new_left, new_left), (right, stay, stay, stay),
                (right, new_left, up, ("right", ("left", 5))), (right, stay, new_left, new_left)):
            self.assert_same(joined(SIDES, value, one, two), expected)
        for value, one, two in ((left, stay, up), (left, up, stay), (right, up, up), (right, stay, up),
                                (left, new_right, up), (right, new_left, stay), (left, stay, new_left)):
            self.assert_told(NotFitting, {}, joined, SIDES, value, one, two)
        for value, change, expected in ((left, stay, left), (right, up, right), (left, new_right, right), (left, up, ("left", 7))):
            self.assert_same(led(SIDES, value, change), expected)

    def test_great_numbers_and_bags(self):
        great = 10 ** 399
        self.assert_same(led(NUM, great, great), 2 * great)
        self.assert_same(less(NUM, -great, great), -2 * great)
        self.assert_same(led(BAG, ((1, great),), ((1, -great),)), ())
        self.assert_same(led(BAG, ((great, 1),), ((-great, -1), (great, 1))), ((-great, -1), (great, 2)))
        self.assert_same(less(BAG, (), ((1, -2), (2, 1))), ((1, 2), (2, -1)))

    def test_three_changes_of_deep_kinds(self):
        for seed in range(300):
            drawer = Drawer(seed)
            kind = drawer.data_kind(6)
            value = drawer.value(kind)
            one = drawer.fitting(kind, value)
            behind = led(kind, value, one)
            two = drawer.fitting(kind, behind)
            three = drawer.fitting(kind, led(kind, behind, two))
            self.assert_same(behind, oracle.led(kind, value, one))
            self.assert_same(joined(kind, value, joined(kind, value, one, two), three),
                             joined(kind, value, one, joined(kind, behind, two, three)))


def some_value(kind, change):
    """A value that a change fits."""
    if kind[0] == "pair":
        return ("pair", some_value(kind[1], change[1]), some_value(kind[2], change[2]))
    if kind[0] == "either":
        if change[0] == "right":
            return change[1]
        return (change[1][0], some_value(kind[1 if change[1][0] == "left" else 2], change[1][1]))
    return {"unit": (), "num": 0, "bag": ()}[kind[0]]


def told_whole(kind, value, change):
    if kind[0] == "either":
        return ("right", oracle.led(kind, value, change))
    if kind[0] == "pair":
        return ("pair",) + tuple(told_whole(kind[at], value[at], change[at]) for at in (1, 2))
    return change


NO_KINDS = [None, True, 1, "num", ["num"], (), ("num", NUM), ("int",), ("bag", BAG), ("bag", STEP), ("pair", NUM),
            nested(101), Stubborn(), (Stubborn(),)]
NO_DATA = NO_KINDS + [STEP, ("pair", STEP, NUM), ("either", NUM, STEP), ("fun", BAG, STEP)]
NO_VALUES = [None, True, "", 3, (), ("left", ()), ("left", True), ["left", 3], ("left", 3, 3), ("right", 3), ("left",),
             ("pair", 1, 2), Stubborn(), ("left", Stubborn()), (Stubborn(), 3)]
NO_CHANGES = [None, True, "", 3, (), ("left", 3), ("left", ("left", ())), ("left", ("left", True)), ["left", ("left", 3)],
              ("right", ("left", ())), ("right", 3), ("left", ("left", 3), 1), ("left", Stubborn()), Stubborn()]
VALUE, CHANGE = ("left", 3), ("left", ("left", 4))
CALLS = (
    (fits, {"kind": SIDES, "value": VALUE, "change": CHANGE}), (led, {"kind": SIDES, "value": VALUE, "change": CHANGE}),
    (less, {"kind": SIDES, "new": VALUE, "old": ("right", ())}), (nothing, {"kind": SIDES, "value": VALUE}),
    (settled, {"kind": SIDES, "value": VALUE, "change": CHANGE}),
    (are_alike, {"kind": SIDES, "value": VALUE, "one": CHANGE, "two": CHANGE}),
    (changes_nothing, {"kind": SIDES, "value": VALUE, "change": CHANGE}),
    (joined, {"kind": SIDES, "value": VALUE, "one": CHANGE, "two": CHANGE}),
    (back, {"kind": SIDES, "value": VALUE, "change": CHANGE}),
)


class WrongArgumentsTest(AskingCase):

    def test_each_and_several_at_once(self):
        values, changes = given(InvalidValue, NO_VALUES), given(InvalidChange, NO_CHANGES)
        wrong = {"kind": given(InvalidKind, NO_DATA), "value": values, "new": values, "old": values, "change": changes,
                 "one": changes, "two": changes}
        for call, right in CALLS:
            self.check_wrong(call, right, wrong)

    def test_kinds_alone(self):
        for call in (change_kind, led_term, less_term, nothing_term):
            self.check_wrong(call, {"kind": STEP}, {"kind": given(InvalidKind, NO_KINDS)})
        self.check_wrong(is_change, {"kind": SIDES, "thing": CHANGE}, {"kind": given(InvalidKind, NO_DATA), "thing": []})

    def test_what_does_not_fit_is_told_last(self):
        stay = ("left", ("right", ()))
        for call in (settled, back):
            self.assert_told(NotFitting, {}, call, SIDES, VALUE, stay)
            self.assert_told(NotFitting, {}, call, change=stay, value=VALUE, kind=SIDES)
            self.assert_told(NotFitting, {}, call, ("pair", NUM, SIDES), ("pair", 1, VALUE), ("pair", 1, stay))
            self.assert_told(InvalidValue, {"given": 3}, call, SIDES, 3, stay)
        bad = ("left", 3)
        self.assert_told(InvalidChange, {"given": bad}, joined, SIDES, VALUE, stay, bad)
        self.assert_told(NotFitting, {}, joined, SIDES, VALUE, stay, stay)
        self.assert_told(NotFitting, {}, joined, SIDES, VALUE, CHANGE, stay)
        self.assert_told(NotFitting, {}, joined, two=stay, one=CHANGE, value=VALUE, kind=SIDES)
        self.assertIs(are_alike(SIDES, VALUE, stay, stay), False)
        self.assertIs(are_alike(SIDES, VALUE, CHANGE, stay), False)
        self.assertIs(are_alike(SIDES, VALUE, stay, CHANGE), False)
        # What does not fit leaves the value; it is not alike to the still change for all that.
        still = ("left", ("left", 0))
        self.assertIs(are_alike(SIDES, VALUE, stay, still), False)
        self.assertIs(are_alike(SIDES, VALUE, still, stay), False)
        self.assert_told(InvalidChange, {"given": bad}, are_alike, SIDES, VALUE, stay, bad)
        self.assertIs(changes_nothing(SIDES, VALUE, stay), False)
        self.assertIs(fits(SIDES, VALUE, stay), False)
        self.assert_same(led(SIDES, VALUE, stay), VALUE)

    def test_what_was_passed_is_as_it_was(self):
        things = [["num"], [1], ("left", [3]), ["left", 3], [("left", ("left", [1]))]]
        held = copy.deepcopy(things)
        for call, right in CALLS:
            for name in right:
                for thing in things:
                    self.assertRaises((InvalidKind, InvalidValue, InvalidChange), call, **{**right, name: thing})
        self.assertEqual(things, held)


if __name__ == "__main__":
    unittest.main()
