"""Meanings of terms, and how many calls they take."""

from changewise.applying import kind_and_value
from changewise.asked import check_data, checked_names
from changewise.kinded import kinded
from changewise.reckoning import Reckoner
from changewise.terms import check_term


def value_in(names, term):
    """What a term means, the names meaning what is told for them."""
    value, _ = _reckoned(names, term)
    return value


def calls_in(names, term):
    """How many calls the meaning of a term takes."""
    _, calls = _reckoned(names, term)
    return calls


def applied(term, values):
    """What a closed term tells of data values, one behind the other."""
    check_term(term)
    _, value = kind_and_value(term, values)
    return value


def _reckoned(names, term):
    """The meaning of a term of a data kind, and its calls."""
    kinds, means = checked_names(names)
    check_term(term)
    known = kinded(kinds, term)
    check_data(known.kind)
    reckoner = Reckoner()
    value = reckoner.meaning(known, means)
    return value, reckoner.taken
