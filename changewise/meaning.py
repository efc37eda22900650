"""Meanings of terms, and how many calls they take."""

from changewise.asked import check_data, checked_names
from changewise.errors import InvalidValues
from changewise.kinded import kinded
from changewise.kinds import is_data_kind
from changewise.reckoning import Reckoner
from changewise.terms import check_term
from changewise.values import is_of

_MOST_VALUES = 8


def value_in(names, term):
    """What a term means, the names meaning what is told for them."""
    value, _ = _reckoned(names, term)
    return value


def calls_in(names, term):
    """How many calls the meaning of a term takes."""
    _, calls = _reckoned(names, term)
    return calls


def applied(term, values):
    """What a closed term tells of data values, one behind the other."""
    check_term(term)
    known = kinded({}, term)
    check_data(_kind_behind(known[-1], values))
    reckoner = Reckoner()
    return reckoner.told(reckoner.meaning(known, {}), values)


def _reckoned(names, term):
    """The meaning of a term of a data kind, and its calls."""
    kinds, means = checked_names(names)
    check_term(term)
    known = kinded(kinds, term)
    check_data(known[-1])
    reckoner = Reckoner()
    value = reckoner.meaning(known, means)
    return value, reckoner.taken


def _kind_behind(kind, values):
    """The kind of what a function of a kind tells of values, one behind the other."""
    if not isinstance(values, tuple) or len(values) > _MOST_VALUES:
        raise InvalidValues(None)
    left = kind
    for index, value in enumerate(values):
        if left[0] != "fun" or not is_data_kind(left[1]) or not is_of(left[1], value):
            raise InvalidValues(index)
        left = left[2]
    return left
