"""Sound sheets: what their cells mean, their edits, and keepers that keep them up edit by edit."""

from changewise.cells import check_row, is_cell, named_by
from changewise.errors import InvalidEdit, InvalidSheet, NotData, NothingDone, UnknownName, WrongTerm
from changewise.kinded import kind_in
from changewise.kinds import is_data_kind
from changewise.keeping import Step, led_sheet, meanings_of, shown_of
from changewise.leading import back_in, fits_in, joined_in, kind_of_changes
from changewise.values import is_of


def is_sound(value):
    """Whether a value, whatever it is, is a sound sheet."""
    try:
        _checked_kinds(value)
    except InvalidSheet:
        return False
    return True


def kinds_in(sheet):
    """The pairs (NAME, KIND) of all cells, in order."""
    kinds = _checked_kinds(sheet)
    return tuple([(name, kinds[name]) for name in kinds])


def shown(sheet):
    """What a sheet shows, reckoned from nothing."""
    kinds = _checked_kinds(sheet)
    return shown_of(kinds, meanings_of(kinds, sheet))


def hangs_on(sheet, name):
    """The names of the inputs on which a cell hangs, in order."""
    _check_name(_checked_kinds(sheet), name)
    hanging = {}
    for cell in sheet:
        found = {cell[1]: True} if cell[0] == "input" else {}
        for other in named_by(cell):
            for ahead in hanging[other]:
                found[ahead] = True
        hanging[cell[1]] = found
    return tuple([cell[1] for cell in sheet if cell[1] in hanging[name]])


def is_edit(sheet, value):
    """Whether a value, whatever it is, is an edit of a sheet."""
    _checked_kinds(sheet)
    try:
        _check_edit(sheet, value)
    except InvalidEdit:
        return False
    return True


def edited(sheet, edit):
    """The sheet with the inputs led as an edit tells."""
    _checked_kinds(sheet)
    _check_edit(sheet, edit)
    return led_sheet(sheet, edit)


def back_edit(sheet, edit):
    """The edit of the edited sheet that leads to the sheet again."""
    _checked_kinds(sheet)
    _check_edit(sheet, edit)
    return _edit_back(sheet, edit)


def joined_edits(sheet, one, two):
    """The edit that leads where one edit, and then another one of the sheet edited, lead."""
    _checked_kinds(sheet)
    _check_edit(sheet, one)
    _check_edit(led_sheet(sheet, one), two)
    ahead, behind = dict(one), dict(two)
    found = []
    for cell in sheet:
        name = cell[1]
        if name in ahead and name in behind:
            found.append((name, joined_in(cell[2], cell[3], ahead[name], behind[name])))
        elif name in ahead:
            found.append((name, ahead[name]))
        elif name in behind:
            found.append((name, behind[name]))
    return tuple(found)


def looked_at(sheet, edit):
    """The names of the cells that are looked at in an edit, in order."""
    kinds = _checked_kinds(sheet)
    _check_edit(sheet, edit)
    step = Step(kinds, meanings_of(kinds, sheet), edit)
    for cell in sheet:
        step.take(cell)
    return tuple(step.seen)


class Keeper:
    """Keeps up what a sheet shows, edit by edit, by derivatives of its terms."""

    def __init__(self, sheet):
        self._kinds = _checked_kinds(sheet)
        self._cells = sheet
        self._means = meanings_of(self._kinds, sheet)
        self._backs = []
        self._looked = ()
        self._calls = 0

    def shown(self):
        """What is shown now."""
        return shown_of(self._kinds, self._means)

    def value(self, name):
        """The value of a cell of a data kind now."""
        _check_name(self._kinds, name)
        if not is_data_kind(self._kinds[name]):
            raise NotData(self._kinds[name])
        return self._means[name]

    def edit(self, edit):
        """Do an edit; the changes, settled, of the cells of data kinds that are changed."""
        _check_edit(self._cells, edit)
        back = _edit_back(self._cells, edit)
        told = self._do(edit)
        self._backs.append(back)
        return told

    def undo(self):
        """Do the edit back of the last edit that is not undone, and tell likewise."""
        if self._backs == []:
            raise NothingDone()
        return self._do(self._backs.pop())

    def sheet(self):
        """The sheet with the inputs as they are now."""
        return self._cells

    @property
    def looked(self):
        """The names of the cells looked at in the last edit or undo."""
        return self._looked

    @property
    def calls(self):
        """How many calls were made in the last edit or undo."""
        return self._calls

    @property
    def done(self):
        """How many edits are done and not undone."""
        return len(self._backs)

    def _do(self, edit):
        step = Step(self._kinds, self._means, edit)
        for cell in self._cells:
            step.take(cell)
        self._cells = led_sheet(self._cells, edit)
        self._means = step.now
        self._looked = tuple(step.seen)
        self._calls = step.reckoner.taken
        return step.told()


def _checked_kinds(sheet):
    """The dict of the kinds of a sound sheet's cells, in their order."""
    check_row(sheet)
    kinds = {}
    for index, cell in enumerate(sheet):
        kind = None
        if is_cell(cell) and cell[1] not in kinds:
            kind = _kind_of_cell(kinds, cell)
        if kind is None:
            raise InvalidSheet(index)
        kinds[cell[1]] = kind
    return kinds


def _kind_of_cell(kinds, cell):
    """The kind of a cell behind those of a dict of kinds, None if it has none."""
    if cell[0] == "input":
        return cell[2]
    try:
        return kind_in(kinds, cell[2])
    except WrongTerm:
        return None


def _check_name(kinds, name):
    # What is no text may have no place in a dict, so it is not looked up.
    if not isinstance(name, str) or name not in kinds:
        raise UnknownName(name)


def _check_edit(sheet, edit):
    """Raise the error of what is no edit of a sheet."""
    if not isinstance(edit, tuple):
        raise InvalidEdit(None)
    left = [cell for cell in sheet if cell[0] == "input"]
    for index, pair in enumerate(edit):
        at = _input_at(left, pair)
        if at is None or not _is_fitting(left[at], pair[1]):
            raise InvalidEdit(index)
        left = left[at + 1:]


def _input_at(cells, pair):
    """Where the input that a pair names stands, None if it is no pair or names none."""
    if not isinstance(pair, tuple) or len(pair) != 2 or not isinstance(pair[0], str):
        return None
    for at, cell in enumerate(cells):
        if cell[1] == pair[0]:
            return at
    return None


def _is_fitting(cell, change):
    """Whether a value, whatever it is, is a change that fits an input's value."""
    return is_of(kind_of_changes(cell[2]), change) and fits_in(cell[2], cell[3], change)


def _edit_back(sheet, edit):
    changes = dict(edit)
    inputs = [cell for cell in sheet if cell[1] in changes]
    return tuple([(cell[1], back_in(cell[2], cell[3], changes[cell[1]])) for cell in inputs])
