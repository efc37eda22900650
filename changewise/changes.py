"""Changes of values of data kinds: which fit, where they lead, differences; and closed terms for the same."""

from changewise.changeterms import difference_term, leading_term, stillness_term
from changewise.errors import InvalidChange, InvalidKind, NotFitting
from changewise.kinds import is_data_kind, is_kind
from changewise.leading import back_in, fits_in, joined_in, kind_of_changes, led_in, less_in
from changewise.values import check_value, is_of


def change_kind(kind):
    """The kind of changes of a kind."""
    _check_kind(kind)
    return kind_of_changes(kind)


def is_change(kind, thing):
    """Whether a thing, whatever it is, is a change of a data kind."""
    _check_data_kind(kind)
    return is_of(kind_of_changes(kind), thing)


def fits(kind, value, change):
    """Whether a change fits a value."""
    _check_all(kind, (value,), (change,))
    return fits_in(kind, value, change)


def led(kind, value, change):
    """A value led by a change, whether it fits or not."""
    _check_all(kind, (value,), (change,))
    return led_in(kind, value, change)


def less(kind, new, old):
    """The difference of two values: the change that leads the old one to the new one."""
    _check_all(kind, (new, old), ())
    return less_in(kind, new, old)


def nothing(kind, value):
    """The still change at a value."""
    _check_all(kind, (value,), ())
    return less_in(kind, value, value)


def settled(kind, value, change):
    """The difference that leads a value to where a change leads it."""
    _check_all(kind, (value,), (change,))
    _check_fitting(kind, value, change)
    return less_in(kind, led_in(kind, value, change), value)


def are_alike(kind, value, one, two):
    """Whether two changes both fit a value and lead it to the same."""
    _check_all(kind, (value,), (one, two))
    if not fits_in(kind, value, one) or not fits_in(kind, value, two):
        return False
    return led_in(kind, value, one) == led_in(kind, value, two)


def changes_nothing(kind, value, change):
    """Whether a change fits a value and leads it to itself."""
    _check_all(kind, (value,), (change,))
    return fits_in(kind, value, change) and led_in(kind, value, change) == value


def joined(kind, value, one, two):
    """One change, and then another one, as one change."""
    _check_all(kind, (value,), (one, two))
    _check_fitting(kind, value, one)
    _check_fitting(kind, led_in(kind, value, one), two)
    return joined_in(kind, value, one, two)


def back(kind, value, change):
    """The change back from where a change leads a value."""
    _check_all(kind, (value,), (change,))
    _check_fitting(kind, value, change)
    return back_in(kind, value, change)


def led_term(kind):
    """A closed term that takes a value, and a change, to the value led."""
    _check_kind(kind)
    return leading_term(kind)


def less_term(kind):
    """A closed term that takes the new value, and the old one, to the difference."""
    _check_kind(kind)
    return difference_term(kind)


def nothing_term(kind):
    """A closed term that takes a value to the still change at it."""
    _check_kind(kind)
    return stillness_term(kind)


def _check_kind(kind):
    if not is_kind(kind):
        raise InvalidKind(kind)


def _check_data_kind(kind):
    if not is_data_kind(kind):
        raise InvalidKind(kind)


def _check_all(kind, things, changes):
    """Raise the error of the first that is no data kind, no value of it, or no change of it."""
    _check_data_kind(kind)
    for thing in things:
        check_value(kind, thing)
    for change in changes:
        if not is_of(kind_of_changes(kind), change):
            raise InvalidChange(change)


def _check_fitting(kind, value, change):
    if not fits_in(kind, value, change):
        raise NotFitting()
