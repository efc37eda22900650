"""The laws of [A3], at values of each sort of group kind, large numbers among them."""

import unittest

from changewise.values import bag_of, count_of, is_value, many_of, opposite, sum_of, support_of, zero_of
from tests.cases import Case

NUM, UNIT = ("num",), ("unit",)
BAG, SIDES = ("bag", NUM), ("bag", ("either", NUM, UNIT))
GREAT = 10 ** 399
NUMBERS = (0, 1, -1, 7, GREAT, -GREAT - 3)
BAGS = ((), ((1, 1),), ((1, -1), (2, 3)), ((-4, 2), (1, 1), (2, -3)), ((0, GREAT), (GREAT, -1)), ((0, -GREAT), (2, 1)))
SIDE_BAGS = ((), ((("left", 0), 2),), ((("left", 0), -2), (("right", ()), 1)), ((("left", GREAT), 1), (("right", ()), -1)))


def pairs_of(firsts, seconds):
    return tuple(("pair", first, second) for first in firsts for second in seconds)


GROUPS = (
    (NUM, NUMBERS),
    (BAG, BAGS),
    (SIDES, SIDE_BAGS),
    (("pair", NUM, BAG), pairs_of((0, 5, -GREAT), BAGS[:4])),
    (("pair", ("pair", BAG, NUM), NUM), pairs_of(pairs_of(BAGS[2:4], (0, GREAT)), (-2, 3))),
)


class LawsTest(Case):

    def test_what_is_told_is_a_value_of_the_kind(self):
        for kind, values in GROUPS:
            self.assertTrue(is_value(kind, zero_of(kind)))
            for one in values:
                self.assertTrue(is_value(kind, one))
                self.assertTrue(is_value(kind, opposite(kind, one)))
                for two in values:
                    self.assertTrue(is_value(kind, sum_of(kind, one, two)))
                for number in (0, 1, -1, 2, GREAT):
                    self.assertTrue(is_value(kind, many_of(kind, number, one)))

    def test_three_added_either_way_round_are_the_same(self):
        for kind, values in GROUPS:
            for one in values:
                for two in values:
                    for three in values:
                        ahead = sum_of(kind, sum_of(kind, one, two), three)
                        self.assertEqual(ahead, sum_of(kind, one, sum_of(kind, two, three)))

    def test_order_does_not_matter(self):
        for kind, values in GROUPS:
            for one in values:
                for two in values:
                    self.assertEqual(sum_of(kind, one, two), sum_of(kind, two, one))

    def test_zero_changes_nothing(self):
        for kind, values in GROUPS:
            for one in values:
                self.assertEqual(sum_of(kind, one, zero_of(kind)), one)
                self.assertEqual(sum_of(kind, zero_of(kind), one), one)

    def test_the_opposite_takes_away(self):
        for kind, values in GROUPS:
            for one in values:
                self.assertEqual(sum_of(kind, one, opposite(kind, one)), zero_of(kind))
                self.assertEqual(opposite(kind, opposite(kind, one)), one)

    def test_so_many_times_is_added_so_often(self):
        for kind, values in GROUPS:
            for one in values:
                added, taken = zero_of(kind), zero_of(kind)
                for number in range(8):
                    self.assertEqual(many_of(kind, number, one), added)
                    self.assertEqual(many_of(kind, -number, one), taken)
                    added = sum_of(kind, added, one)
                    taken = sum_of(kind, taken, opposite(kind, one))

    def test_times_of_large_numbers(self):
        for kind, values in GROUPS:
            for one in values:
                again = sum_of(kind, many_of(kind, GREAT, one), one)
                self.assertEqual(again, many_of(kind, GREAT + 1, one))
                self.assertEqual(many_of(kind, -GREAT, one), opposite(kind, many_of(kind, GREAT, one)))

    def test_counts_of_a_sum_are_sums_of_counts(self):
        for one in BAGS:
            for two in BAGS:
                for value in (-4, 0, 1, 2, 3, GREAT):
                    both = count_of(BAG, one, value) + count_of(BAG, two, value)
                    self.assertEqual(count_of(BAG, sum_of(BAG, one, two), value), both)

    def test_a_sum_of_bags_is_the_bag_of_all_their_pairs(self):
        for kind, values in ((BAG, BAGS), (SIDES, SIDE_BAGS)):
            for one in values:
                for two in values:
                    self.assertEqual(sum_of(kind, one, two), bag_of(kind, one + two))

    def test_the_support_of_a_support_is_itself(self):
        for kind, values in ((BAG, BAGS), (SIDES, SIDE_BAGS)):
            for one in values:
                told = support_of(kind, one)
                self.assertEqual(support_of(kind, told), told)
                for value, many in one:
                    self.assertEqual(count_of(kind, told, value), 1 if many > 0 else 0)


if __name__ == "__main__":
    unittest.main()
