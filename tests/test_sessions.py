"""The sessions that the document's interface shows."""

import unittest

from tests.session import run_session, steps_of

KINDS = """
>>> from changewise.kinds import TRUTH, depth_of_kind, is_data_kind, is_group_kind, is_kind, is_plain_kind
>>> num, unit = ("num",), ("unit",)
>>> pair, bag, map_kind = ("pair", num, num), ("bag", ("pair", num, num)), ("fun", num, ("bag", num))
>>> [is_kind(bag), is_kind(("bag", bag)), is_plain_kind(pair), is_plain_kind(bag), is_data_kind(bag), is_data_kind(map_kind), is_group_kind(bag), is_group_kind(("pair", num, unit)), depth_of_kind(bag), TRUTH]
[True, False, True, False, True, False, True, False, 3, ('either', ('unit',), ('unit',))]
"""

VALUES = """
>>> from changewise.values import bag_of, count_of, is_value, many_of, opposite, order, sum_of, support_of, zero_of
>>> two_one, one_two = ("pair", 2, 1), ("pair", 1, 2)
>>> some = bag_of(bag, ((two_one, 3), (one_two, -1), (two_one, -1), (("pair", 5, 5), 0)))
>>> some
((('pair', 1, 2), -1), (('pair', 2, 1), 2))
>>> [is_value(bag, some), is_value(bag, some[::-1]), is_value(num, True), is_value(unit, ()), order(pair, one_two, two_one), order(TRUTH, ("right", ()), ("left", ()))]
[True, False, False, True, -1, 1]
>>> [sum_of(bag, some, opposite(bag, some)), many_of(bag, -2, some), zero_of(("pair", num, bag)), count_of(bag, some, two_one), count_of(bag, some, ("pair", 0, 0)), support_of(bag, some)]
[(), ((('pair', 1, 2), 2), (('pair', 2, 1), -4)), ('pair', 0, ()), 2, 0, ((('pair', 2, 1), 1),)]
"""

WRONG = """
>>> depth_of_kind(("bag", bag))
raises InvalidKind(given=('bag', ('bag', ('pair', ('num',), ('num',)))))
>>> order(num, 1, True)
raises InvalidValue(given=True)
>>> bag_of(bag, ((two_one, 3), (one_two, None)))
raises InvalidPairs(index=1)
"""


class SessionTest(unittest.TestCase):

    def test_sessions_go_on_from_module_to_module(self):
        names = {}
        for text in (KINDS, VALUES, WRONG):
            run_session(self, text, names)

    def test_each_line_is_run(self):
        self.assertEqual([len(steps_of(text)) for text in (KINDS, VALUES, WRONG)], [4, 6, 3])


if __name__ == "__main__":
    unittest.main()
