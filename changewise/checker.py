"""The checker: it takes claims with papers that show them."""

from changewise.applying import kind_and_value
from changewise.asked import check_changes, check_data, checked_names, is_fitting
from changewise.changes import fits, led
from changewise.deriving import adds, derivative
from changewise.errors import ChangeError
from changewise.keeping import meanings_of
from changewise.kinded import kind_in, kinded
from changewise.leading import kind_of_changes, led_in
from changewise.names import marked
from changewise.reckoning import Reckoner
from changewise.soundness import check_name, checked_sheet, sheets_by
from changewise.terms import check_term, check_written
from changewise.values import is_of

# How many elements a claim of each word has.
_SIZES = {
    "means": 4, "means not": 4, "unlike functions": 3, "leads": 5, "derivative": 5, "no derivative": 5, "adds not": 2,
    "led": 5, "alike": 5, "unlike": 5, "shown": 5, "not shown": 5,
}


def accepts(claim, paper):
    """Whether a claim is one for the checker, and a paper is one for it, whatever both are."""
    if not _is_tuple(claim) or len(claim) == 0 or not isinstance(claim[0], str):
        return False
    if claim[0] not in _SIZES or len(claim) != _SIZES[claim[0]]:
        return False
    rule = _RULES[claim[0]]
    try:
        return rule(claim, paper)
    except ChangeError:
        # What is not as told in a claim, or in a paper, is told by what is asked of it.
        return False


def _is_tuple(thing):
    return isinstance(thing, tuple)


def _is_nothing(paper):
    return _is_tuple(paper) and len(paper) == 0


def _means(claim, paper):
    word, term, values, value = claim
    if not _is_nothing(paper):
        return False
    check_written(term)
    kind, found = kind_and_value(term, values)
    return is_of(kind, value) and (found == value) == (word == "means")


def _unlike_functions(claim, paper):
    _, one, two = claim
    check_written(one)
    check_written(two)
    return kind_in({}, one) == kind_in({}, two) and kind_and_value(one, paper) != kind_and_value(two, paper)


def _leads(claim, paper):
    _, names, changes, term, change = claim
    if not _is_nothing(paper):
        return False
    kinds, means = checked_names(names)
    check_changes(kinds, means, changes)
    check_written(term)
    known = kinded(kinds, term)
    check_data(known.kind)
    return _is_leading(known, (kinds, means, dict(changes)), change)


def _is_leading(known, told, change):
    """Whether a thing is a change that leads a term's value to where the changes of its names lead it."""
    kinds, means, changes = told
    behind = {name: led_in(kinds[name], means[name], changes[name]) for name in changes}
    was = Reckoner().meaning(known, means)
    if not is_fitting(known.kind, was, change):
        return False
    return led_in(known.kind, was, change) == Reckoner().meaning(known, {**means, **behind})


def _derivative(claim, paper):
    _, context, changing, term, other = claim
    found = derivative(context, changing, term)
    check_term(other)
    return _is_nothing(paper) and other == found


def _no_derivative(claim, paper):
    _, context, changing, term, other = claim
    # Asked for the errors of what is not as told.
    derivative(context, changing, term)
    check_term(other)
    if not _is_tuple(paper) or len(paper) != 2:
        return False
    names, changes = paper
    kinds, means = checked_names(names)
    check_changes(kinds, means, changes)
    if tuple([row[:2] for row in names]) != context or tuple([name for name, _ in changes]) != changing:
        return False
    known = kinded(kinds, term)
    check_data(known.kind)
    change_kinds = {marked(name): kind_of_changes(kinds[name]) for name in changing}
    derived = kinded({**kinds, **change_kinds}, other)
    if derived.kind != kind_of_changes(known.kind):
        return False
    change_means = {marked(name): moved for name, moved in changes}
    change = Reckoner().meaning(derived, {**means, **change_means})
    return not _is_leading(known, (kinds, means, dict(changes)), change)


def _adds_not(claim, paper):
    return _is_tuple(paper) and len(paper) == 2 and not adds(claim[1], paper[0], paper[1])


def _led(claim, paper):
    _, kind, value, change, new = claim
    if not _is_nothing(paper) or not fits(kind, value, change):
        return False
    return is_of(kind, new) and led(kind, value, change) == new


def _both(claim, paper):
    word, kind, value, one, two = claim
    if not _is_nothing(paper) or not fits(kind, value, one) or not fits(kind, value, two):
        return False
    return (led(kind, value, one) == led(kind, value, two)) == (word == "alike")


def _shown(claim, paper):
    word, sheet, edits, name, value = claim
    sound = checked_sheet(sheet)
    sheets = sheets_by(sheet, edits)
    check_name(sound, name)
    kind = sound.kinds[name]
    check_data(kind)
    if not is_of(kind, value):
        return False
    is_so = meanings_of(sound, sheets[-1])[name] == value
    if _is_nothing(paper):
        return is_so == (word == "shown")
    if word != "shown" or not is_so or not _is_keeping(paper, len(edits)):
        return False
    return _is_kept(kind, [meanings_of(sound, each)[name] for each in sheets], paper[1])


def _is_keeping(paper, many):
    """Whether a paper is one of so many changes."""
    if not _is_tuple(paper) or len(paper) != 2 or not isinstance(paper[0], str) or paper[0] != "kept":
        return False
    return _is_tuple(paper[1]) and len(paper[1]) == many


def _is_kept(kind, values, changes):
    """Whether the changes, each fitting, go from each of the values to the next one."""
    for at, change in enumerate(changes):
        if not is_fitting(kind, values[at], change) or led_in(kind, values[at], change) != values[at + 1]:
            return False
    return True


_RULES = {
    "means": _means, "means not": _means, "unlike functions": _unlike_functions, "leads": _leads,
    "derivative": _derivative, "no derivative": _no_derivative, "adds not": _adds_not, "led": _led, "alike": _both,
    "unlike": _both, "shown": _shown, "not shown": _shown,
}
