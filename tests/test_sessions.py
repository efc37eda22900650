"""The sessions that the document's interface shows."""

import unittest

from tests.session import run_session, steps_of

KINDS = """
>>> from changewise.kinds import TRUTH, depth_of_kind, is_data_kind, is_group_kind, is_kind, is_plain_kind
>>> num, unit = ("num",), ("unit",)
>>> pair, bag, map_kind = ("pair", num, num), ("bag", ("pair", num, num)), ("fun", num, ("bag", num))
>>> [is_kind(bag), is_kind(("bag", bag)), is_plain_kind(pair), is_plain_kind(bag), is_data_kind(bag), is_data_kind(map_kind), is_group_kind(bag), is_group_kind(("pair", num, unit)), depth_of_kind(bag), TRUTH]
[True, False, True, False, True, False, True, False, 3, ('either', ('unit',), ('unit',))]
"""

VALUES = """
>>> from changewise.values import bag_of, count_of, is_value, many_of, opposite, order, sum_of, support_of, zero_of
>>> two_one, one_two = ("pair", 2, 1), ("pair", 1, 2)
>>> some = bag_of(bag, ((two_one, 3), (one_two, -1), (two_one, -1), (("pair", 5, 5), 0)))
>>> some
((('pair', 1, 2), -1), (('pair', 2, 1), 2))
>>> [is_value(bag, some), is_value(bag, some[::-1]), is_value(num, True), is_value(unit, ()), order(pair, one_two, two_one), order(TRUTH, ("right", ()), ("left", ()))]
[True, False, False, True, -1, 1]
>>> [sum_of(bag, some, opposite(bag, some)), many_of(bag, -2, some), zero_of(("pair", num, bag)), count_of(bag, some, two_one), count_of(bag, some, ("pair", 0, 0)), support_of(bag, some)]
[(), ((('pair', 1, 2), 2), (('pair', 2, 1), -4)), ('pair', 0, ()), 2, 0, ((('pair', 2, 1), 1),)]
"""

TERMS = r"""
>>> from changewise.terms import depth_of, free_names, is_name, is_term, is_written, part_at, parts_of
>>> twice = ("fn", "x", num, ("plus", ("name", "x"), ("name", "y")))
>>> [is_name("x1"), is_name("x'"), is_name("let"), is_name("1x"), parts_of(twice), depth_of(twice), free_names(twice), part_at(twice, (3, 1))]
[True, False, False, False, 4, 3, ('y',), ('name', 'x')]
>>> changed = ("let", "x'", ("name", "x'"), ("name", "x'"))
>>> [is_term(changed), is_written(changed), free_names(changed), is_term(("number", True)), is_term(("zero", unit))]
[True, False, ("x'",), False, False]
"""

TEXT = r"""
>>> from changewise.text import read_kind, read_sheet, read_term, read_value, show_kind, show_sheet, show_term, show_value
>>> [show_kind(map_kind), show_kind(("fun", ("fun", num, num), ("either", num, ("either", unit, bag)))), read_kind("num|unit|num") == ("either", ("either", num, unit), num)]
['num -> bag num', '(num -> num) -> num | (unit | bag (num, num))', True]
>>> [show_value(bag, some), read_value(bag, "{(2,1): 2, (1,2): -1}") == some, show_value(TRUTH, ("left", ())), show_value(bag, ()), read_value(("bag", num), "{7: 1, 7: -1}")]
['{(1, 2): -1, (2, 1): 2}', True, 'left(())', '{}', ()]
>>> show_term(("call", twice, ("minus", ("number", 3))))
'(fn x: num. x + y)(-(3))'
>>> [read_term("fn x:num.x+y") == twice, read_term("- 3"), read_term("-3"), show_term(("times", ("plus", ("name", "a"), ("number", -1)), ("minus", ("name", "b'"))))]
[True, ('minus', ('number', 3)), ('number', -3), "(a + -1) * -b'"]
>>> show_term(read_term("case a<b{u.total(fn v:num.one(v),c);w.zero(bag num)}"))
'case a < b {u. total(fn v: num. one(v), c); w. zero(bag num)}'
>>> sheet = (("input", "y", num, 3), ("cell", "f", twice), ("cell", "z", ("call", ("name", "f"), ("name", "y"))))
>>> [show_sheet(sheet), read_sheet(show_sheet(sheet)) == sheet]
['input y: num = 3;\ncell f = fn x: num. x + y;\ncell z = f(y);', True]
>>> read_term("f(a, b)")
raises InvalidText(line=1, column=4)
>>> read_term("let x = 1\n  x + 1")
raises InvalidText(line=2, column=3)
>>> read_kind("bag bag num")
raises InvalidText(line=1, column=5)
"""

CHANGES = r"""
>>> from changewise.changes import are_alike, back, change_kind, changes_nothing, fits, is_change, joined, led, led_term, less, less_term, nothing, nothing_term, settled
>>> num, unit = ("num",), ("unit",)
>>> maybe, bag, some, more, none = ("either", num, unit), ("bag", num), ("left", 3), ("left", ("left", 4)), ("right", ())
>>> [change_kind(maybe), change_kind(("fun", num, bag)), is_change(maybe, more), is_change(maybe, ("left", 4))]
[('either', ('either', ('num',), ('unit',)), ('either', ('num',), ('unit',))), ('fun', ('num',), ('fun', ('num',), ('bag', ('num',)))), True, False]
>>> [led(maybe, some, more), led(maybe, none, more), fits(maybe, none, more), led(maybe, some, ("right", none)), led(bag, ((1, 2),), ((1, -2), (5, 1)))]
[('left', 7), ('right', ()), False, ('right', ()), ((5, 1),)]
>>> [less(maybe, ("left", 7), some), less(maybe, none, some), nothing(maybe, some), less(bag, ((1, 2),), ((1, 1), (5, 1)))]
[('left', ('left', 4)), ('right', ('right', ())), ('left', ('left', 0)), ((1, 1), (5, -1))]
>>> [settled(maybe, some, ("right", ("left", 7))), are_alike(maybe, some, more, ("right", ("left", 7))), changes_nothing(maybe, some, ("right", some))]
[('left', ('left', 4)), True, True]
>>> [joined(maybe, some, ("right", ("left", 1)), more), back(maybe, some, more)]
[('right', ('left', 5)), ('left', ('left', -4))]
>>> joined(maybe, some, ("right", none), more)
raises NotFitting()
>>> from changewise.meaning import applied
>>> [applied(led_term(maybe), (some, more)), applied(less_term(maybe), (none, some)), applied(nothing_term(bag), (((1, 2),),))]
[('left', 7), ('right', ('right', ())), ()]
>>> step, x = ("fun", num, num), ("name", "x")
>>> one, two = ("fn", "x", num, ("plus", x, x)), ("fn", "x", num, ("times", x, x))
>>> to_two = ("call", ("call", less_term(step), two), one)
>>> [applied(("call", ("call", led_term(step), one), to_two), (5,)), applied(to_two, (5, 1))]
[25, 26]
"""

WRONG_CHANGES = r"""
>>> led(maybe, some, ("left", 4))
raises InvalidChange(given=('left', 4))
>>> fits(step, one, two)
raises InvalidKind(given=('fun', ('num',), ('num',)))
>>> less(maybe, 3, some)
raises InvalidValue(given=3)
>>> back(maybe, none, more)
raises NotFitting()
"""

DERIVING = r"""
>>> from changewise.deriving import adds, derivative, is_steady, kept_change
>>> from changewise.kinding import kind_of
>>> from changewise.meaning import applied, calls_in, value_in
>>> num, bag, x, y, b = ("num",), ("bag", ("num",)), ("name", "x"), ("name", "y"), ("name", "b")
>>> double = ("fn", "x", num, ("plus", x, x))
>>> [kind_of((), double), kind_of((("x", num),), ("is", "<", x, ("number", 3)))]
[('fun', ('num',), ('num',)), ('either', ('unit',), ('unit',))]
>>> kind_of((("x", num),), ("plus", x, ("unit",)))
raises WrongTerm(place=(2,))
>>> names, sums = (("b", bag, ((1, 2), (5, 1))), ("r", num, 3)), ("total", ("fn", "x", num, ("times", x, ("name", "r"))), b)
>>> [value_in(names, sums), calls_in(names, sums), applied(double, (4,)), applied(("fn", "x", num, ("fn", "y", num, ("pair", y, x))), (1, 2))]
[21, 2, 8, ('pair', 2, 1)]
>>> [kept_change(names, (("b", ((5, 1),)),), sums), kept_change(names, (("r", 1),), sums), kept_change(names, (("b", ((5, 1),)), ("r", 1)), sums)]
[15, 7, 27]
>>> [is_steady((("b", bag), ("r", num)), ("b",), sums), is_steady((("b", bag), ("r", num)), ("b", "r"), sums)]
[True, False]
>>> many = ("total", ("fn", "x", num, ("number", 1)), b)
>>> [adds(("fn", "b", bag, ("plus", ("number", 1), many)), ((1, 2),), ((5, 1),)), adds(("fn", "b", bag, ("times", many, many)), ((1, 1),), ((1, 1),))]
[True, False]
>>> squared = derivative((("x", num),), ("x",), ("times", x, x))
>>> applied(("fn", "x", num, ("fn", "x'", num, squared)), (3, 1))
7
"""

SHEETS = r"""
>>> from changewise.sheets import Keeper, back_edit, edited, hangs_on, is_edit, joined_edits, kinds_in, looked_at, shown
>>> a, b, by, s = ("name", "a"), ("name", "b"), ("name", "by"), ("name", "s")
>>> sheet = (("input", "a", num, 3), ("input", "b", bag, ((1, 2), (5, 1))), ("cell", "by", ("fn", "x", num, ("times", x, a))), ("cell", "s", ("total", by, b)), ("cell", "t", ("plus", s, ("number", 1))))
>>> [kinds_in(sheet)[2:4], shown(sheet)[2:], hangs_on(sheet, "t"), looked_at(sheet, (("b", ((5, 1),)),)), is_edit(sheet, (("b", ()), ("a", 1)))]
[(('by', ('fun', ('num',), ('num',))), ('s', ('num',))), (('s', 21), ('t', 22)), ('a', 'b'), ('s', 't'), False]
>>> keeper = Keeper(sheet)
>>> [keeper.edit((("b", ((5, 1),)),)), keeper.looked, keeper.value("t"), keeper.done]
[(('b', ((5, 1),)), ('s', 15), ('t', 15)), ('s', 't'), 37, 1]
>>> [keeper.edit((("a", 1),)), keeper.looked, keeper.shown()[2:], keeper.shown() == shown(keeper.sheet())]
[(('a', 1), ('s', 12), ('t', 12)), ('by', 's', 't'), (('s', 48), ('t', 49)), True]
>>> [keeper.undo(), keeper.edit((("a", 0),)), keeper.looked, keeper.calls, keeper.done, keeper.shown()[2:]]
[(('a', -1), ('s', -12), ('t', -12)), (), (), 0, 2, (('s', 36), ('t', 37))]
>>> [joined_edits(sheet, (("a", 1),), (("a", 2), ("b", ((1, -2),)))), back_edit(sheet, (("b", ((5, 1),)),)), edited(sheet, (("a", 1),))[0]]
[(('a', 3), ('b', ((1, -2),))), (('b', ((5, -1),)),), ('input', 'a', ('num',), 4)]
"""

WRONG = """
>>> depth_of_kind(("bag", bag))
raises InvalidKind(given=('bag', ('bag', ('pair', ('num',), ('num',)))))
>>> order(num, 1, True)
raises InvalidValue(given=True)
>>> bag_of(bag, ((two_one, 3), (one_two, None)))
raises InvalidPairs(index=1)
"""

DESK = r"""
>>> from changewise.desk import Desk
>>> desk = Desk()
>>> desk.say("sheet input a: num = 3; input b: bag num = {1: 2, 5: 1}; cell by = fn x: num. x * a; cell s = total(by, b); cell t = s + 1;")
('5 cells',)
>>> [desk.say("show"), desk.say("set a = 4"), desk.say("look"), desk.say("change b = {5: -1}; a = -4"), desk.say("undo")]
[('a = 3', 'b = {1: 2, 5: 1}', 'by: num -> num', 's = 21', 't = 22'), ('a = 4', 's = 28', 't = 29'), ('by s t',), ('a = 0', 'b = {1: 2}', 's = 0', 't = 1'), ('a = 4', 'b = {1: 2, 5: 1}', 's = 28', 't = 29')]
>>> [desk.say("set a = 4"), desk.say("look"), desk.say("hangs s"), desk.say("tell by(t)"), desk.say("tell fn x: num. by"), desk.say("set s = 1"), desk.say("set a = (1, 2)")]
[('nothing changed',), ('nothing',), ('a b',), ('116',), ('num -> num -> num',), ('no input s',), ('bad text at 1 5',)]
>>> [desk.say("sheet cell z = 1 + ();"), desk.say("text")[0], desk.say("undo"), desk.say("undo"), desk.say("undo")]
[('no cell 0',), 'input a: num = 4;', ('nothing changed',), ('a = 3', 's = 21', 't = 22'), ('nothing to undo',)]
"""

WRONG_DESK = """
>>> desk.say(None)
raises InvalidLine(given=None)
"""

WRONG_DERIVING = """
>>> kind_of((("X", num),), double)
raises InvalidContext(index=0)
>>> value_in((), double)
raises NotData(kind=('fun', ('num',), ('num',)))
>>> calls_in((("x", num, True),), x)
raises InvalidNames(index=0)
>>> applied(double, (4, 4))
raises InvalidValues(index=1)
>>> derivative((("x", num),), ("x", "y"), x)
raises InvalidChanging(index=1)
>>> is_steady((), (), ("name", "x'"))
raises InvalidTerm(place=(1,))
>>> kept_change(names, (("b", ((5, 1),)), ("a", 1)), sums)
raises InvalidChanges(index=1)
>>> adds(double, 1, 2)
raises NotData(kind=('fun', ('num',), ('num',)))
"""

WRONG_SHEETS = """
>>> free_names(("plus", x, ("name", "X")))
raises InvalidTerm(place=(2, 1))
>>> read_sheet("cell z = z;")
raises InvalidSheet(index=0)
>>> kinds_in((("cell", "z", ("plus", ("number", 1), ("unit",))),))
raises InvalidSheet(index=0)
>>> keeper.edit((("a", 1), ("s", 1)))
raises InvalidEdit(index=1)
>>> hangs_on(sheet, "x")
raises UnknownName(given='x')
>>> keeper.value("by")
raises NotData(kind=('fun', ('num',), ('num',)))
>>> Keeper(sheet).undo()
raises NothingDone()
"""


# In the order of the interface, each going on from the ones ahead.
SESSIONS = (KINDS, VALUES, WRONG, TERMS, TEXT, CHANGES, WRONG_CHANGES, DERIVING, WRONG_DERIVING, SHEETS, WRONG_SHEETS, DESK,
            WRONG_DESK)


class SessionTest(unittest.TestCase):

    def test_sessions_go_on_from_module_to_module(self):
        names = {}
        for text in SESSIONS:
            run_session(self, text, names)

    def test_each_line_is_run(self):
        lengths = [len(steps_of(text)) for text in SESSIONS]
        self.assertEqual(lengths, [4, 6, 3, 5, 11, 15, 4, 15, 8, 9, 7, 6, 1])


if __name__ == "__main__":
    unittest.main()
