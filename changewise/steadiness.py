"""Which terms are steady: the change of what they mean hangs on the changes alone."""

from changewise.kinded import kind_in
from changewise.kinds import is_group_kind
from changewise.shapes import free_in

# What is done part by part leads a sum of changes to the sum of what each is led to.
_BY_PARTS = ("plus", "minus", "pair", "first", "second")


def is_steady_in(kinds, changing, term):
    """Whether a term that has a kind in a dict of kinds is steady in names that may change."""
    found = _changed(changing, term)
    if found == []:
        return True
    if [name for name in found if not is_group_kind(kinds[name])] != []:
        return False
    word = term[0]
    if word == "let":
        return _is_steady_let(kinds, changing, term)
    if word == "total":
        return _changed(changing, term[1]) == [] and is_steady_in(kinds, changing, term[2])
    if word == "times":
        moved = [part for part in term[1:] if _changed(changing, part) != []]
        return len(moved) == 1 and is_steady_in(kinds, changing, moved[0])
    if word in _BY_PARTS:
        unsteady = [part for part in term[1:] if not is_steady_in(kinds, changing, part)]
        return unsteady == []
    return word == "name"


def _is_steady_let(kinds, changing, term):
    _, name, told, body = term
    inner = [other for other in changing if other != name]
    if _changed(changing, told) != []:
        inner.append(name)
    within = {**kinds, name: kind_in(kinds, told)}
    return is_steady_in(kinds, changing, told) and is_steady_in(within, inner, body)


def _changed(changing, term):
    """The names that stand free in a term and may change."""
    return [name for name in free_in(term) if name in changing]
