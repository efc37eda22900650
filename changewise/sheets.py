"""Sound sheets: what their cells mean, their edits, and keepers that keep them up edit by edit."""

from changewise.errors import InvalidSheet, NotData, NothingDone
from changewise.keeping import Kept, back_of, led_sheet, meanings_of, shown_of
from changewise.kinds import is_known_data
from changewise.leading import joined_in
from changewise.soundness import check_edit, check_name, checked_sheet, inputs_behind, is_edit_of


def is_sound(value):
    """Whether a value, whatever it is, is a sound sheet."""
    try:
        checked_sheet(value)
    except InvalidSheet:
        return False
    return True


def kinds_in(sheet):
    """The pairs (NAME, KIND) of all cells, in order."""
    kinds = checked_sheet(sheet).kinds
    return tuple([(name, kinds[name]) for name in kinds])


def shown(sheet):
    """What a sheet shows, reckoned from nothing."""
    sound = checked_sheet(sheet)
    return shown_of(sound, meanings_of(sound, sheet))


def hangs_on(sheet, name):
    """The names of the inputs on which a cell hangs, in order."""
    sound = checked_sheet(sheet)
    check_name(sound, name)
    return inputs_behind(sound, name)


def is_edit(sheet, value):
    """Whether a value, whatever it is, is an edit of a sheet."""
    checked_sheet(sheet)
    return is_edit_of(sheet, value)


def edited(sheet, edit):
    """The sheet with the inputs led as an edit tells."""
    checked_sheet(sheet)
    check_edit(sheet, edit)
    return led_sheet(sheet, edit)


def back_edit(sheet, edit):
    """The edit of the edited sheet that leads to the sheet again."""
    checked_sheet(sheet)
    check_edit(sheet, edit)
    return back_of(sheet, edit)


def joined_edits(sheet, one, two):
    """The edit that leads where one edit, and then another one of the sheet edited, lead."""
    checked_sheet(sheet)
    check_edit(sheet, one)
    check_edit(led_sheet(sheet, one), two)
    ahead, behind = dict(one), dict(two)
    found = []
    for cell in sheet:
        name = cell[1]
        if name in ahead and name in behind:
            found.append((name, joined_in(cell[2], cell[3], ahead[name], behind[name])))
        elif name in ahead:
            found.append((name, ahead[name]))
        elif name in behind:
            found.append((name, behind[name]))
    return tuple(found)


def looked_at(sheet, edit):
    """The names of the cells that are looked at in an edit, in order."""
    sound = checked_sheet(sheet)
    check_edit(sheet, edit)
    kept = Kept(sound, sheet)
    kept.do(edit)
    return kept.seen


class Keeper:
    """Keeps up what a sheet shows, edit by edit, by derivatives of its terms."""

    def __init__(self, sheet):
        self._kept = Kept(checked_sheet(sheet), sheet)

    def shown(self):
        """What is shown now."""
        return shown_of(self._kept.sound, self._kept.means)

    def value(self, name):
        """The value of a cell of a data kind now."""
        check_name(self._kept.sound, name)
        kind = self._kept.sound.kinds[name]
        if not is_known_data(kind):
            raise NotData(kind)
        return self._kept.means[name]

    def edit(self, edit):
        """Do an edit; the changes, settled, of the cells of data kinds that are changed."""
        check_edit(self._kept.cells, edit)
        return self._kept.do(edit)

    def undo(self):
        """Do the edit back of the last edit that is not undone, and tell likewise."""
        if self._kept.backs == []:
            raise NothingDone()
        return self._kept.do_back()

    def sheet(self):
        """The sheet with the inputs as they are now."""
        return self._kept.cells

    @property
    def looked(self):
        """The names of the cells looked at in the last edit or undo."""
        return self._kept.seen

    @property
    def calls(self):
        """How many calls were made in the last edit or undo."""
        return self._kept.taken

    @property
    def done(self):
        """How many edits are done and not undone."""
        return len(self._kept.backs)
