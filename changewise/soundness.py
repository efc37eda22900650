"""Sound sheets: the kinds of their cells, their edits, and on which inputs a cell hangs."""

from changewise.asked import is_fitting
from changewise.cells import check_row, is_cell, named_by
from changewise.errors import InvalidEdit, InvalidEdits, InvalidSheet, UnknownName, WrongTerm
from changewise.keeping import led_sheet
from changewise.kinded import kind_in

_MOST_EDITS = 40


def checked_kinds(sheet):
    """The dict of the kinds of a sound sheet's cells, in their order."""
    check_row(sheet)
    kinds = {}
    for index, cell in enumerate(sheet):
        kind = None
        if is_cell(cell) and cell[1] not in kinds:
            kind = _kind_of_cell(kinds, cell)
        if kind is None:
            raise InvalidSheet(index)
        kinds[cell[1]] = kind
    return kinds


def check_name(kinds, name):
    """Raise the error of what is no name of a cell."""
    # What is no text may have no place in a dict, so it is not looked up.
    if not isinstance(name, str) or name not in kinds:
        raise UnknownName(name)


def check_edit(sheet, edit):
    """Raise the error of what is no edit of a sheet."""
    if not isinstance(edit, tuple):
        raise InvalidEdit(None)
    left = [cell for cell in sheet if cell[0] == "input"]
    for index, pair in enumerate(edit):
        at = _input_at(left, pair)
        if at is None or not is_fitting(left[at][2], left[at][3], pair[1]):
            raise InvalidEdit(index)
        left = left[at + 1:]


def sheets_by(sheet, edits):
    """The sheet, and what it is behind each of the edits."""
    if not isinstance(edits, tuple) or len(edits) > _MOST_EDITS:
        raise InvalidEdits(None)
    found = [sheet]
    for index, edit in enumerate(edits):
        if not is_edit_of(found[-1], edit):
            raise InvalidEdits(index)
        found.append(led_sheet(found[-1], edit))
    return found


def is_edit_of(sheet, thing):
    """Whether a thing, whatever it is, is an edit of what is known to be a sound sheet."""
    try:
        check_edit(sheet, thing)
    except InvalidEdit:
        return False
    return True


def inputs_behind(sheet, name):
    """The names of the inputs on which a cell hangs, in order."""
    hanging = {}
    for cell in sheet:
        found = {cell[1]: True} if cell[0] == "input" else {}
        for other in named_by(cell):
            for ahead in hanging[other]:
                found[ahead] = True
        hanging[cell[1]] = found
    return tuple([cell[1] for cell in sheet if cell[1] in hanging[name]])


def _kind_of_cell(kinds, cell):
    """The kind of a cell behind those of a dict of kinds, None if it has none."""
    if cell[0] == "input":
        return cell[2]
    try:
        return kind_in(kinds, cell[2])
    except WrongTerm:
        return None


def _input_at(cells, pair):
    """Where the input that a pair names stands, None if it is no pair or names none."""
    if not isinstance(pair, tuple) or len(pair) != 2 or not isinstance(pair[0], str):
        return None
    for at, cell in enumerate(cells):
        if cell[1] == pair[0]:
            return at
    return None
