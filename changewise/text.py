"""Texts of kinds, values, terms and sheets: how they are read and shown."""

from changewise.cells import check_sheet
from changewise.errors import InvalidKind, InvalidText
from changewise.kinds import is_data_kind, is_kind
from changewise.reading import read
from changewise.showing import kind_shown, term_shown, value_shown
from changewise.terms import check_term
from changewise.values import check_value


def read_kind(text):
    """The kind that a text tells."""
    _check_text(text)
    return read(text, "KIND")[0]


def read_term(text):
    """The term that a text tells."""
    _check_text(text)
    return read(text, "TERM")[0]


def read_value(kind, text):
    """The value of a data kind that a text tells."""
    _check_data_kind(kind)
    _check_text(text)
    return read(text, ("value", kind))[0]


def read_sheet(text):
    """The sheet that a text tells."""
    _check_text(text)
    sheet = tuple(read(text, "SHEET"))
    check_sheet(sheet)
    return sheet


def show_kind(kind):
    """The text of a kind."""
    if not is_kind(kind):
        raise InvalidKind(kind)
    return kind_shown(kind)


def show_term(term):
    """The text of a term."""
    check_term(term)
    return term_shown(term)


def show_value(kind, value):
    """The text of a value of a data kind."""
    _check_data_kind(kind)
    check_value(kind, value)
    return value_shown(kind, value)


def show_sheet(sheet):
    """The text of a sheet, a line for each cell."""
    check_sheet(sheet)
    return "\n".join([_cell_shown(cell) for cell in sheet])


def _check_text(text):
    if not isinstance(text, str):
        raise InvalidText(None, None)


def _check_data_kind(kind):
    if not is_data_kind(kind):
        raise InvalidKind(kind)


def _cell_shown(cell):
    if cell[0] == "input":
        return f"input {cell[1]}: {kind_shown(cell[2])} = {value_shown(cell[2], cell[3])};"
    return f"cell {cell[1]} = {term_shown(cell[2])};"
