"""Derivatives of terms, the changes that they tell, and what hangs on the changes alone."""

from changewise.asked import check_changes, check_changing, check_data, checked_context, checked_names
from changewise.derivatives import derivative_of
from changewise.errors import InvalidValues, NotData
from changewise.groups import plus_in, zero_in
from changewise.kinded import kinded
from changewise.kinds import is_group_kind
from changewise.leading import kind_of_changes
from changewise.names import marked
from changewise.reckoning import Reckoner
from changewise.steadiness import is_steady_in
from changewise.terms import check_written
from changewise.values import is_of


def derivative(context, changing, written):
    """A term that tells the change of a term's meaning by the changes of the names that may change."""
    kinds = checked_context(context)
    check_changing(kinds, changing)
    check_written(written)
    return derivative_of(kinded(kinds, written), {name: kinds[name] for name in changing})


def is_steady(context, changing, written):
    """Whether the change of what a term means hangs on the changes alone, by the words that stand in it."""
    kinds = checked_context(context)
    check_changing(kinds, changing)
    check_written(written)
    return is_steady_in(kinded(kinds, written), {name: kinds[name] for name in changing})


def adds(written, one, two):
    """Whether a term from bags adds up, beyond what it tells of the empty bag, at two bags."""
    check_written(written)
    known = kinded({}, written)
    bags, group = _bags_and_group(known.kind)
    for index, bag in enumerate((one, two)):
        if not is_of(bags, bag):
            raise InvalidValues(index)
    reckoner = Reckoner()
    function = reckoner.meaning(known, {})
    both = reckoner.told(function, (plus_in(bags, one, two),))
    none = reckoner.told(function, (zero_in(bags),))
    first, second = reckoner.told(function, (one,)), reckoner.told(function, (two,))
    return plus_in(group, both, none) == plus_in(group, first, second)


def kept_change(names, changes, written):
    """The change of what a term means, as its derivative tells it."""
    kinds, means = checked_names(names)
    check_changes(kinds, means, changes)
    check_written(written)
    known = kinded(kinds, written)
    check_data(known.kind)
    changing = {name: kinds[name] for name, _ in changes}
    change_kinds = {marked(name): kind_of_changes(changing[name]) for name in changing}
    change_means = {marked(name): change for name, change in changes}
    derived = kinded({**kinds, **change_kinds}, derivative_of(known, changing))
    return Reckoner().meaning(derived, {**means, **change_means})


def _bags_and_group(kind):
    """The kinds of the bags and of the sums that a function of a kind tells of them."""
    if kind[0] != "fun" or kind[1][0] != "bag" or not is_group_kind(kind[2]):
        raise NotData(kind)
    return kind[1], kind[2]
