"""Claims with papers that the checker accepts."""

from changewise.applying import kind_and_value
from changewise.asked import check_data
from changewise.changes import fits, led
from changewise.deriving import adds, derivative, kept_change
from changewise.errors import InvalidValue, NotFitting
from changewise.keeping import Kept
from changewise.kinded import kind_in
from changewise.leading import less_in
from changewise.soundness import check_name, checked_sheet, sheets_by
from changewise.terms import check_written
from changewise.values import is_of


def certify_led(kind, value, change):
    """That a change leads a value to where it does."""
    _check_fitting(kind, value, change)
    return ("led", kind, value, change, led(kind, value, change)), ()


def certify_both(kind, value, one, two):
    """That two changes lead a value to the same, or that they do not."""
    _check_fitting(kind, value, one)
    _check_fitting(kind, value, two)
    word = "alike" if led(kind, value, one) == led(kind, value, two) else "unlike"
    return (word, kind, value, one, two), ()


def certify_meaning(term, values, value):
    """That a term tells a value of the values, or that it does not."""
    check_written(term)
    kind, found = kind_and_value(term, values)
    if not is_of(kind, value):
        raise InvalidValue(value)
    word = "means" if found == value else "means not"
    return (word, term, values, value), ()


def certify_unlike(term, other, values):
    """That two functions are unlike, by what they tell of the values; None if these do not show it."""
    check_written(term)
    check_written(other)
    if kind_in({}, term) != kind_in({}, other):
        return None
    if kind_and_value(term, values) == kind_and_value(other, values):
        return None
    return ("unlike functions", term, other), values


def certify_change(names, changes, written):
    """That what a term's derivative tells leads its value."""
    change = kept_change(names, changes, written)
    return ("leads", names, changes, written, change), ()


def certify_derivative(context, changing, written):
    """That the derivative of a term is one."""
    return ("derivative", context, changing, written, derivative(context, changing, written)), ()


def certify_no_sum(written, one, two):
    """That a function from bags is not added up, by two bags; None if it adds up there."""
    if adds(written, one, two):
        return None
    return ("adds not", written), (one, two)


def certify_shown(sheet, edits, name):
    """That behind the edits a cell shows what it does, by the changes that a keeper tells."""
    sound = checked_sheet(sheet)
    sheets_by(sheet, edits)
    check_name(sound, name)
    kind = sound.kinds[name]
    check_data(kind)
    kept, changes = Kept(sound, sheet), []
    for edit in edits:
        still = less_in(kind, kept.means[name], kept.means[name])
        told = dict(kept.do(edit))
        changes.append(told[name] if name in told else still)
    return ("shown", sheet, edits, name, kept.means[name]), ("kept", tuple(changes))


def _check_fitting(kind, value, change):
    if not fits(kind, value, change):
        raise NotFitting()
