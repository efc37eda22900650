"""Sound sheets: what is known of their cells, their edits, and on which inputs a cell hangs."""

from changewise.asked import is_fitting
from changewise.cells import check_row, is_cell
from changewise.errors import InvalidEdit, InvalidEdits, InvalidSheet, UnknownName, WrongTerm
from changewise.keeping import Sound, led_sheet
from changewise.kinded import kinded

_MOST_EDITS = 40


def checked_sheet(sheet):
    """What is known of a sound sheet."""
    check_row(sheet)
    sound = Sound()
    for index, cell in enumerate(sheet):
        if not is_cell(cell) or cell[1] in sound.kinds or not _is_taken(sound, cell):
            raise InvalidSheet(index)
    return sound


def check_name(sound, name):
    """Raise the error of what is no name of a cell."""
    # What is no text may have no place in a dict, so it is not looked up.
    if not isinstance(name, str) or name not in sound.kinds:
        raise UnknownName(name)


def check_edit(sheet, edit):
    """Raise the error of what is no edit of a sheet."""
    if not isinstance(edit, tuple):
        raise InvalidEdit(None)
    left = [cell for cell in sheet if cell[0] == "input"]
    for index, pair in enumerate(edit):
        at = _input_at(left, pair)
        if at is None or not is_fitting(left[at][2], left[at][3], pair[1]):
            raise InvalidEdit(index)
        left = left[at + 1:]


def sheets_by(sheet, edits):
    """The sheet, and what it is behind each of the edits."""
    if not isinstance(edits, tuple) or len(edits) > _MOST_EDITS:
        raise InvalidEdits(None)
    found = [sheet]
    for index, edit in enumerate(edits):
        if not is_edit_of(found[-1], edit):
            raise InvalidEdits(index)
        found.append(led_sheet(found[-1], edit))
    return found


def is_edit_of(sheet, thing):
    """Whether a thing, whatever it is, is an edit of what is known to be a sound sheet."""
    try:
        check_edit(sheet, thing)
    except InvalidEdit:
        return False
    return True


def inputs_behind(sound, name):
    """The names of the inputs on which a cell hangs, in order."""
    hanging = {}
    for cell in sound.kinds:
        found = {} if cell in sound.parts else {cell: True}
        if cell in sound.parts:
            for other in sound.parts[cell].names:
                found = {**found, **hanging[other]}
        hanging[cell] = found
    return tuple([cell for cell in sound.kinds if cell in hanging[name]])


def _is_taken(sound, cell):
    """Whether a cell has a kind behind those known; it is known then, too."""
    if cell[0] == "input":
        sound.kinds[cell[1]] = cell[2]
        return True
    try:
        part = kinded(sound.kinds, cell[2])
    except WrongTerm:
        return False
    sound.kinds[cell[1]], sound.parts[cell[1]] = part.kind, part
    return True


def _input_at(cells, pair):
    """Where the input that a pair names stands, None if it is no pair or names none."""
    if not isinstance(pair, tuple) or len(pair) != 2 or not isinstance(pair[0], str):
        return None
    for at, cell in enumerate(cells):
        if cell[1] == pair[0]:
            return at
    return None
