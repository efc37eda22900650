"""[2], [3]: drawn sheets through all parts of the program, all with the same answers."""

import unittest

from changewise.certificates import certify_both, certify_derivative, certify_led, certify_shown
from changewise.changes import are_alike, back, change_kind, fits, joined, led, led_term, less_term, nothing, settled
from changewise.checker import accepts
from changewise.deriving import derivative, kept_change
from changewise.desk import Desk
from changewise.kinding import kind_of
from changewise.kinds import is_data_kind
from changewise.meaning import applied, value_in
from changewise.sheets import (
    Keeper, back_edit, edited, hangs_on, is_edit, is_sound, joined_edits, kinds_in, looked_at, shown,
)
from changewise.terms import free_names
from changewise.text import read_sheet, show_sheet, show_value
from tests import oracle
from tests.cases import Case
from tests.drawing import Drawer

SEEDS = 120


class Whole:
    """A drawn sheet, and rows of edits of it."""

    def __init__(self, seed, many=3):
        self.drawer = Drawer(seed)
        self.sheet = self.drawer.sheet(self.drawer.random.randrange(1, 4), self.drawer.random.randrange(2, 6), 4)
        self.kinds = dict(kinds_in(self.sheet))
        self.sheets, self.edits = [self.sheet], ()
        for _ in range(many):
            self.edits += (self.drawer.edit(self.sheets[-1]),)
            self.sheets.append(edited(self.sheets[-1], self.edits[-1]))

    def data(self):
        return [name for name in self.kinds if is_data_kind(self.kinds[name])]


def as_names(sheet):
    """The names with values that a sheet shows, as a term's meaning is asked for."""
    kinds = dict(kinds_in(sheet))
    return tuple((name, kinds[name], value) for name, value in shown(sheet))


class WholeTest(Case):

    def rows(self):
        for seed in range(SEEDS):
            with self.subTest(seed):
                yield Whole(seed)

    def test_read_back_and_kept(self):
        for whole in self.rows():
            keeper = Keeper(whole.sheet)
            for sheet, edit in zip(whole.sheets, whole.edits):
                self.assertEqual(read_sheet(show_sheet(sheet)), sheet)
                self.assertIs(is_sound(sheet), True)
                self.assertIs(is_edit(sheet, edit), True)
                self.assert_same(keeper.shown(), shown(sheet))
                self.assert_same(shown(sheet), oracle.shown(sheet))
                keeper.edit(edit)
                self.assertEqual(keeper.looked, looked_at(sheet, edit))
            for sheet in whole.sheets[::-1]:
                self.assert_same(keeper.shown(), shown(sheet))
                self.assert_same(keeper.sheet(), sheet)
                if keeper.done:
                    keeper.undo()

    def test_told_changes_lead_from_sheet_to_sheet(self):
        for whole in self.rows():
            keeper = Keeper(whole.sheet)
            for sheet, edit, behind in zip(whole.sheets, whole.edits, whole.sheets[1:]):
                was, now, told = dict(shown(sheet)), dict(shown(behind)), dict(keeper.edit(edit))
                for name in whole.data():
                    kind = whole.kinds[name]
                    change = told.get(name, nothing(kind, was[name]))
                    self.assertIs(fits(kind, was[name], change), True)
                    self.assert_same(led(kind, was[name], change), now[name])
                    self.assert_same(settled(kind, was[name], change), change)
                    self.assert_same(applied(led_term(kind), (was[name], change)), now[name])
                    self.assert_same(applied(less_term(kind), (now[name], was[name])), change)
                    self.assertTrue(accepts(*certify_led(kind, was[name], change)))
                    self.assertIs(name in told, was[name] != now[name])

    def test_joined_and_back(self):
        for whole in self.rows():
            one, two, three = whole.edits
            both = joined_edits(whole.sheet, one, two)
            self.assertEqual(edited(whole.sheet, both), whole.sheets[2])
            self.assertEqual(joined_edits(whole.sheet, both, three),
                             joined_edits(whole.sheet, one, joined_edits(whole.sheets[1], two, three)))
            self.assertEqual(edited(whole.sheets[1], back_edit(whole.sheet, one)), whole.sheet)
            keeper, other = Keeper(whole.sheet), Keeper(whole.sheet)
            first, second, joint = dict(keeper.edit(one)), dict(keeper.edit(two)), dict(other.edit(both))
            self.assert_same(keeper.shown(), other.shown())
            was, between = dict(shown(whole.sheet)), dict(shown(whole.sheets[1]))
            for name in whole.data():
                kind, value = whole.kinds[name], was[name]
                ahead = first.get(name, nothing(kind, value))
                row = joined(kind, value, ahead, second.get(name, nothing(kind, between[name])))
                whole_change = joint.get(name, nothing(kind, value))
                self.assertIs(are_alike(kind, value, row, whole_change), True)
                self.assert_same(settled(kind, value, row), whole_change)
                self.assertEqual(accepts(*certify_both(kind, value, row, whole_change)), True)
                returning = back(kind, value, ahead)
                self.assert_same(led(kind, led(kind, value, ahead), returning), value)

    def test_terms_of_cells_by_themselves(self):
        """A term over data cells means, and is kept up, by itself as in the sheet."""
        seen = 0
        for whole in self.rows():
            edit, ahead, behind = whole.edits[0], whole.sheets[0], whole.sheets[1]
            names, now = as_names(ahead), dict(shown(behind))
            told = dict(Keeper(ahead).edit(edit))
            changes = tuple(sorted(told.items()))
            context = tuple((name, kind) for name, kind, _ in names)
            for cell in whole.sheet:
                named = free_names(cell[2]) if cell[0] == "cell" else None
                if named is not None and cell[1] in whole.data() and set(named) <= set(whole.data()):
                    self.assertEqual(kind_of(context, cell[2]), whole.kinds[cell[1]])
                    self.assert_same(value_in(names, cell[2]), dict(shown(ahead))[cell[1]])
                    own = tuple(pair for pair in changes if pair[0] in named)
                    change = kept_change(names, own, cell[2])
                    self.assertIs(fits(whole.kinds[cell[1]], dict(shown(ahead))[cell[1]], change), True)
                    self.assert_same(led(whole.kinds[cell[1]], dict(shown(ahead))[cell[1]], change), now[cell[1]])
                    changing = tuple(name for name, _ in own)
                    inner = context + tuple((name + "'", change_kind(whole.kinds[name])) for name in changing)
                    self.assertEqual(kind_of(inner, derivative(context, changing, cell[2])),
                                     change_kind(whole.kinds[cell[1]]))
                    self.assertTrue(accepts(*certify_derivative(context, changing, cell[2])))
                    seen += 1
        self.assertGreater(seen, 100)

    def test_certified_and_accepted(self):
        for whole in self.rows():
            for name, value in shown(whole.sheets[-1]):
                claim, paper = certify_shown(whole.sheet, whole.edits, name)
                self.assert_same(claim, ("shown", whole.sheet, whole.edits, name, value))
                self.assertIs(accepts(claim, paper), True)
                self.assertIs(accepts(claim, ()), True)
                self.assertIs(accepts(("not shown",) + claim[1:], ()), False)

    def test_told_at_a_desk(self):
        for whole in self.rows():
            desk, keeper = Desk(), Keeper(whole.sheet)
            desk.say("sheet " + show_sheet(whole.sheet))
            for edit, behind in zip(whole.edits, whole.sheets[1:]):
                told = dict(keeper.edit(edit))
                kinds = {name: change_kind(whole.kinds[name]) for name, _ in edit}
                if edit:
                    answer = desk.say("change " + "; ".join(f"{name} = {show_value(kinds[name], change)}"
                                                            for name, change in edit[::-1]))
                    expected = tuple(f"{name} = {show_value(whole.kinds[name], keeper.value(name))}" for name in told)
                    self.assert_same(answer, expected or ("nothing changed",))
                    self.assert_same(desk.say("look"), (" ".join(keeper.looked) or "nothing",))
                self.assert_same(desk.sheet(), behind)
                for name, value in shown(behind):
                    self.assert_same(desk.say(f"tell {name}"), (show_value(whole.kinds[name], value),))
                    self.assert_same(desk.say(f"hangs {name}"), (" ".join(hangs_on(behind, name)) or "nothing",))


if __name__ == "__main__":
    unittest.main()
