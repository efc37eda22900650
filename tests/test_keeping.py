"""[E2], [E3], [E5] for drawn sheets: behind any row of edits and undos a keeper shows what its sheet
shows from nothing, whatever functions are handed on in its cells."""

import unittest

from changewise.sheets import Keeper, back_edit, edited, is_sound, joined_edits, kinds_in, looked_at, shown
from tests import oracle
from tests.drawing import Drawer

SEEDS = 400


class Followed:
    """A keeper, beside the sheets that its edits should have led to."""

    def __init__(self, case, sheet):
        self.case = case
        self.keeper = Keeper(sheet)
        self.sheets = [sheet]
        self.seen = 0

    def edit(self, edit):
        ahead = self.sheets[-1]
        told = self.keeper.edit(edit)
        self.sheets.append(oracle.edited(ahead, edit))
        self.case.assertEqual(told, oracle.told(ahead, edit))
        self.check(looked_at(ahead, edit), oracle.looked_at(ahead, edit))

    def undo(self):
        left = self.sheets.pop()
        told = self.keeper.undo()
        back = tuple(
            (cell[1], oracle.less(cell[2], cell[3], now[3]))
            for cell, now in zip(self.sheets[-1], left) if cell != now)
        self.case.assertEqual(told, oracle.told(left, back))
        self.check(self.keeper.looked, oracle.looked_at(left, back))

    def check(self, looked, expected):
        keeper, sheet = self.keeper, self.sheets[-1]
        self.case.assertEqual(looked, expected)
        self.case.assertEqual(keeper.looked, expected)
        self.case.assertEqual(keeper.sheet(), sheet)
        self.case.assertEqual(keeper.shown(), oracle.shown(sheet))
        self.case.assertEqual(keeper.done, len(self.sheets) - 1)
        if not expected:
            self.case.assertEqual(keeper.calls, 0)
        for name, value in keeper.shown():
            self.case.assertEqual(keeper.value(name), value)
        self.seen += len(expected)


def drawn(seed):
    drawer = Drawer(seed)
    inputs, cells = drawer.random.randrange(1, 5), drawer.random.randrange(1, 7)
    return drawer, drawer.sheet(inputs, cells, drawer.random.randrange(2, 6))


class DrawnSheetsTest(unittest.TestCase):

    def test_what_sheets_show_from_nothing(self):
        for seed in range(SEEDS):
            _, sheet = drawn(seed)
            with self.subTest(seed):
                self.assertIs(is_sound(sheet), True)
                self.assertEqual(dict(kinds_in(sheet)), oracle.kinds_of_sheet(sheet))
                self.assertEqual([name for name, _ in kinds_in(sheet)], [cell[1] for cell in sheet])
                self.assertEqual(shown(sheet), oracle.shown(sheet))
                self.assertEqual(Keeper(sheet).shown(), oracle.shown(sheet))

    def test_rows_of_edits_and_undos(self):
        seen = 0
        for seed in range(SEEDS):
            drawer, sheet = drawn(seed)
            with self.subTest(seed):
                followed = Followed(self, sheet)
                for _ in range(5):
                    if followed.keeper.done and drawer.chance(30):
                        followed.undo()
                    else:
                        followed.edit(drawer.edit(followed.keeper.sheet()))
                while followed.keeper.done:
                    followed.undo()
                self.assertEqual(followed.keeper.sheet(), sheet)
                seen += followed.seen
        # The drawn sheets would test little if few cells were looked at.
        self.assertGreater(seen, 4 * SEEDS)

    def test_edits_joined_and_back(self):
        for seed in range(SEEDS):
            drawer, sheet = drawn(seed)
            with self.subTest(seed):
                one = drawer.edit(sheet)
                behind = edited(sheet, one)
                two = drawer.edit(behind)
                far = edited(behind, two)
                three = drawer.edit(far)
                self.assertEqual(behind, oracle.edited(sheet, one))
                self.assertEqual(edited(sheet, joined_edits(sheet, one, two)), far)
                self.assertEqual(edited(behind, back_edit(sheet, one)), sheet)
                ahead_first = joined_edits(sheet, joined_edits(sheet, one, two), three)
                behind_first = joined_edits(sheet, one, joined_edits(behind, two, three))
                self.assertEqual(ahead_first, behind_first)

    def test_a_joined_edit_shows_what_both_show(self):
        for seed in range(0, SEEDS, 4):
            drawer, sheet = drawn(seed)
            with self.subTest(seed):
                one = drawer.edit(sheet)
                two = drawer.edit(edited(sheet, one))
                keeper, other = Keeper(sheet), Keeper(sheet)
                keeper.edit(one)
                keeper.edit(two)
                other.edit(joined_edits(sheet, one, two))
                self.assertEqual(keeper.shown(), other.shown())
                self.assertEqual(keeper.sheet(), other.sheet())


if __name__ == "__main__":
    unittest.main()
