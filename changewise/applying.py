"""Closed terms called with data values, one behind the other."""

from changewise.asked import check_data
from changewise.errors import InvalidValues
from changewise.kinded import kinded
from changewise.kinds import is_data_kind
from changewise.reckoning import Reckoner
from changewise.values import is_of

_MOST_VALUES = 8


def kind_and_value(term, values):
    """The kind, and the value, of what is known to be a term when it is called with the values."""
    known = kinded({}, term)
    kind = _kind_behind(known.kind, values)
    check_data(kind)
    reckoner = Reckoner()
    return kind, reckoner.told(reckoner.meaning(known, {}), values)


def _kind_behind(kind, values):
    """The kind of what a function of a kind tells of values, one behind the other."""
    if not isinstance(values, tuple) or len(values) > _MOST_VALUES:
        raise InvalidValues(None)
    left = kind
    for index, value in enumerate(values):
        if left[0] != "fun" or not is_data_kind(left[1]) or not is_of(left[1], value):
            raise InvalidValues(index)
        left = left[2]
    return left
