"""A desk: lines of text keep up a sheet, and are answered by texts."""

from changewise.errors import InvalidLine, InvalidSheet, InvalidText, UnknownName, WrongTerm
from changewise.keeping import Kept
from changewise.kinded import kinded
from changewise.kinds import is_known_data
from changewise.leading import fits_in, kind_of_changes, less_in
from changewise.reading import read_told
from changewise.reckoning import Reckoner
from changewise.showing import kind_shown, value_shown
from changewise.soundness import checked_sheet, inputs_behind
from changewise.terms import is_written
from changewise.text import read_sheet, read_term, show_sheet

_MOST_CELLS = 40
# These orders are whole by themselves.
_BARE = ("undo", "show", "text", "look")


class Desk:
    """Keeps a sheet up, line by line; it has none at first."""

    def __init__(self):
        self._kept = None

    def say(self, line):
        """The answer to a line."""
        if not isinstance(line, str):
            raise InvalidLine(line)
        order, blank, rest = line.partition(" ")
        if order == "sheet":
            return self._begin(rest)
        if order not in _ANSWERS or order in _BARE and blank != "":
            return ("no such line",)
        if self._kept is None:
            return ("no sheet",)
        answer = _ANSWERS[order]
        return answer(self._kept, rest)

    def sheet(self):
        """The sheet as it is now, None if there is none."""
        if self._kept is None:
            return None
        return self._kept.cells

    def _begin(self, text):
        """Keep up the sheet of a text from now on."""
        try:
            sheet = read_sheet(text)
            sound = checked_sheet(sheet)
        except InvalidText as error:
            return _bad_text(error.line, error.column)
        except InvalidSheet as wrong:
            at = _MOST_CELLS if wrong.index is None else wrong.index
            return (f"no cell {at}",)
        self._kept = Kept(sound, sheet)
        return (f"{len(sheet)} cells",)


def _bad_text(line, column):
    return (f"bad text at {line} {column}",)


def _cell_shown(kept, name):
    return f"{name} = {value_shown(kept.sound.kinds[name], kept.means[name])}"


def _listed(names):
    return (" ".join(names) if names else "nothing",)


def _changed(kept, told):
    """The answer to an edit that was done, by what was told of it."""
    if told == ():
        return ("nothing changed",)
    return tuple([_cell_shown(kept, name) for name, _ in told])


def _set(kept, rest):
    values, kinds = _inputs(kept)
    return _edited(kept, kinds, rest, lambda name, value: less_in(kinds[name], value, values[name]))


def _change(kept, rest):
    _, kinds = _inputs(kept)
    change_kinds = {name: kind_of_changes(kinds[name]) for name in kinds}
    return _edited(kept, change_kinds, rest, lambda name, change: change)


def _inputs(kept):
    """The dicts of the values and of the kinds of the inputs."""
    inputs = [cell for cell in kept.cells if cell[0] == "input"]
    return {cell[1]: cell[3] for cell in inputs}, {cell[1]: cell[2] for cell in inputs}


def _edited(kept, kinds, rest, change_of):
    """The answer to a text of names and things of their kinds, each of which tells the change of an input."""
    try:
        told = read_told(kinds, rest)
    except InvalidText as error:
        return _bad_text(error.line, error.column)
    except UnknownName as unknown:
        return (f"no input {unknown.given}",)
    changes = {name: change_of(name, thing) for name, thing in told}
    for name in changes:
        if not fits_in(kept.sound.kinds[name], kept.means[name], changes[name]):
            return (f"does not fit {name}",)
    edit = tuple([(cell[1], changes[cell[1]]) for cell in kept.cells if cell[1] in changes])
    return _changed(kept, kept.do(edit))


def _undo(kept, rest):
    if kept.backs == []:
        return ("nothing to undo",)
    return _changed(kept, kept.do_back())


def _show(kept, rest):
    kinds, found = kept.sound.kinds, []
    for name in kinds:
        kind = kinds[name]
        found.append(_cell_shown(kept, name) if is_known_data(kind) else f"{name}: {kind_shown(kind)}")
    return tuple(found)


def _text(kept, rest):
    if kept.cells == ():
        return ()
    return tuple(show_sheet(kept.cells).split("\n"))


def _look(kept, rest):
    return _listed(kept.seen)


def _hangs(kept, rest):
    if rest not in kept.sound.kinds:
        return (f"no cell {rest}",)
    return _listed(inputs_behind(kept.sound, rest))


def _tell(kept, rest):
    try:
        term = read_term(rest)
    except InvalidText as error:
        return _bad_text(error.line, error.column)
    if not is_written(term):
        return ("no term",)
    try:
        known = kinded(kept.sound.kinds, term)
    except WrongTerm:
        return ("no kind",)
    kind = known.kind
    if not is_known_data(kind):
        return (kind_shown(kind),)
    return (value_shown(kind, Reckoner().meaning(known, kept.means)),)


_ANSWERS = {
    "set": _set, "change": _change, "undo": _undo, "show": _show, "text": _text, "look": _look, "hangs": _hangs,
    "tell": _tell,
}
