"""Reads a text by its form, refusing it at the first token with which it can't go on.

What is still due stands in a list of its own and not in calls within one another, so a text may
open as many brackets as it likes.
"""

from changewise.errors import InvalidText, UnknownName
from changewise.forms import FORMS, more_rows_row, more_told_row, rows_row, told_row, value_row
from changewise.groups import gathered
from changewise.tokens import line_and_column, tokens_of


def read_told(kinds, text):
    """The pairs (NAME, VALUE) of a text of names, of those of a dict of kinds, with values of their kinds.

    A name that is none of these, or is told again, is refused as UnknownName, if nothing ahead of it is wrong.
    """
    made = read(text, ("told", kinds))
    return [(name, value) for name, value in zip(made[::2], made[1::2])]


def read(text, symbol):
    """The list of what a text that is due as one symbol tells."""
    tokens = tokens_of(text)
    at, due, made = 0, ["END", symbol], []
    while due:
        wanted = due.pop()
        sort, worth, index = tokens[at]
        if isinstance(wanted, tuple) or wanted in FORMS:
            row = _row_of(wanted, sort, made)
            if row is None:
                _refuse(text, index)
            due.extend(row[::-1])
        elif wanted == sort:
            at += 1
            _keep(sort, worth, made)
        else:
            _refuse(text, index)
    return made


def _refuse(text, index):
    line, column = line_and_column(text, index)
    raise InvalidText(line, column)


def _keep(sort, worth, made):
    """Keep what a token tells beyond its sort."""
    if sort == "NUMBER":
        made.append(int(worth))
    elif sort in ("NAME", "MARKED"):
        made.append(worth)


def _row_of(wanted, sort, made):
    """The symbols that are due in the place of one, None if no token of the sort can be."""
    if not isinstance(wanted, tuple):
        return _form_row(wanted, sort)
    if wanted[0] == "value":
        return value_row(wanted[1], sort)
    if wanted[0] == "value read":
        return value_row(made[-1], sort)
    if wanted[0] == "rows":
        return rows_row(wanted[1], sort)
    if wanted[0] == "more rows":
        return more_rows_row(wanted[1], sort)
    if wanted[0] == "told":
        return told_row(wanted[1])
    if wanted[0] == "more told":
        return more_told_row(wanted[1], sort)
    if wanted[0] == "value named":
        return value_row(wanted[1][made[-1]], sort)
    if wanted[0] == "known":
        _check_known(wanted[1], made)
    else:
        _make(wanted, made)
    return ()


def _check_known(kinds, made):
    """Raise the error of a name, read last, that is none of those of a dict, or was read ahead."""
    # Names and values stand by turns.
    if made[-1] not in kinds or made[-1] in made[:-1:2]:
        raise UnknownName(made[-1])


def _form_row(form, sort):
    for first, symbols in FORMS[form]:
        if first is None or first == sort:
            return symbols
    return None


def _make(deed, made):
    """Put what a deed makes in the place of what it is made of."""
    if deed[0] == "build":
        start = len(made) - deed[2]
        thing = deed[1] + tuple(made[start:])
        del made[start:]
    elif deed[0] == "begin":
        thing = []
    elif deed[0] == "bag":
        thing = gathered(tuple(made.pop()))
    else:
        times = made.pop()
        value = made.pop()
        thing = made.pop()
        thing.append((value, times))
    made.append(thing)
