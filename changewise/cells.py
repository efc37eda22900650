"""Cells, and sheets of them: what is a cell, and in which row cells are a sheet."""

from changewise.errors import InvalidSheet
from changewise.kinds import is_data_kind, known_depth
from changewise.names import is_plain_name
from changewise.shapes import free_in
from changewise.terms import is_written
from changewise.values import is_of

_MOST_CELLS = 40
_DEEPEST_KIND = 6


def is_cell(value):
    """Whether a value, whatever it is, is a cell."""
    if not isinstance(value, tuple) or len(value) not in (3, 4):
        return False
    if not isinstance(value[0], str) or not is_plain_name(value[1]):
        return False
    if len(value) == 3:
        return value[0] == "cell" and is_written(value[2])
    return value[0] == "input" and _is_told(value[2], value[3])


def named_by(cell):
    """The ascending tuple of the names that a cell names."""
    if cell[0] == "input":
        return ()
    return free_in(cell[2])


def check_row(sheet):
    """Raise the error of what is no tuple of as many elements as a sheet may have."""
    if not isinstance(sheet, tuple) or len(sheet) > _MOST_CELLS:
        raise InvalidSheet(None)


def check_sheet(sheet):
    """Raise the error of what is no sheet."""
    check_row(sheet)
    ahead = {}
    for index, cell in enumerate(sheet):
        if not is_cell(cell) or cell[1] in ahead or not _is_named_ahead(cell, ahead):
            raise InvalidSheet(index)
        ahead[cell[1]] = True


def _is_told(kind, value):
    """Whether an input may have the kind, and the value is of it."""
    return is_data_kind(kind) and known_depth(kind) <= _DEEPEST_KIND and is_of(kind, value)


def _is_named_ahead(cell, ahead):
    for name in named_by(cell):
        if name not in ahead:
            return False
    return True
