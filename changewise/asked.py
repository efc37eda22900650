"""Checks of arguments that functions of several files ask for alike."""

from changewise.errors import InvalidChanges, InvalidChanging, InvalidContext, InvalidNames, NotData
from changewise.kinds import is_data_kind, is_kind
from changewise.leading import fits_in, kind_of_changes
from changewise.names import is_any_name, is_plain_name
from changewise.values import is_of

_MOST_NAMES = 40


def checked_context(context):
    """The dict of the kinds of a context's names."""
    if not isinstance(context, tuple) or len(context) > _MOST_NAMES:
        raise InvalidContext(None)
    kinds = {}
    for index, pair in enumerate(context):
        if not _is_row(pair, 2) or not is_any_name(pair[0]) or not is_kind(pair[1]):
            raise InvalidContext(index)
        kinds[pair[0]] = pair[1]
    return kinds


def checked_names(names):
    """The dicts of the kinds, and of the values, of names that values are told for."""
    if not isinstance(names, tuple) or len(names) > _MOST_NAMES:
        raise InvalidNames(None)
    kinds, means = {}, {}
    for index, row in enumerate(names):
        if not _is_row(row, 3) or not is_plain_name(row[0]) or not _is_told(row[1], row[2]):
            raise InvalidNames(index)
        kinds[row[0]], means[row[0]] = row[1], row[2]
    return kinds, means


def check_changing(kinds, changing):
    """Raise the error of what is no row of names that may change, of those of a dict of kinds."""
    if not isinstance(changing, tuple):
        raise InvalidChanging(None)
    for index, name in enumerate(changing):
        if not is_plain_name(name) or name not in kinds or not _is_behind(changing[:index], name):
            raise InvalidChanging(index)


def check_changes(kinds, means, changes):
    """Raise the error of what is no row of changes that fit, of names of the dicts."""
    if not isinstance(changes, tuple):
        raise InvalidChanges(None)
    ahead = []
    for index, pair in enumerate(changes):
        if not _is_row(pair, 2) or not is_plain_name(pair[0]) or pair[0] not in kinds:
            raise InvalidChanges(index)
        name, change = pair
        if not _is_behind(ahead, name) or not is_fitting(kinds[name], means[name], change):
            raise InvalidChanges(index)
        ahead.append(name)


def check_data(kind):
    """Raise the error of a kind that is not data."""
    if not is_data_kind(kind):
        raise NotData(kind)


def is_fitting(kind, value, change):
    """Whether a thing, whatever it is, is a change that fits a value of a data kind."""
    return is_of(kind_of_changes(kind), change) and fits_in(kind, value, change)


def _is_row(thing, size):
    return isinstance(thing, tuple) and len(thing) == size


def _is_told(kind, value):
    return is_data_kind(kind) and is_of(kind, value)


def _is_behind(ahead, name):
    """Whether a name is above the last one of those ahead, if there is one."""
    return len(ahead) == 0 or ahead[-1] < name
