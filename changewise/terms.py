"""Terms: what is one, what is one as written, their parts, free names and depth."""

from changewise.errors import InvalidTerm
from changewise.kinds import depth_of_kind, is_group_kind, is_kind
from changewise.names import is_any_name, is_plain_name
from changewise.shapes import SHAPES, SIGNS, all_parts, free_in, inner_terms, is_formed
from changewise.values import is_whole

_DEEPEST = 100
_DEEPEST_WRITTEN = 12
_DEEPEST_KIND = 100
_DEEPEST_KIND_WRITTEN = 6
_MOST_PARTS_WRITTEN = 120
# The first number of 401 figures.
_TOO_GREAT = (10 ** 50) ** 8


def is_name(value):
    """Whether a value, whatever it is, is a name, not a marked one."""
    return is_plain_name(value)


def is_term(value):
    """Whether a value, whatever it is, is a term."""
    return _place_in_term(value) is None


def is_written(value):
    """Whether a value, whatever it is, is a term as written."""
    return _place_in_written(value) is None


def parts_of(term):
    """How many parts a term has."""
    check_term(term)
    return len(all_parts(term))


def depth_of(term):
    """How deep a term is."""
    check_term(term)
    deepest = 0
    todo = [(term, 1)]
    while todo:
        part, depth = todo.pop()
        deepest = max(deepest, depth)
        todo.extend([(inside, depth + 1) for _, inside, _ in inner_terms(part)])
    return deepest


def free_names(term):
    """The ascending tuple of a term's free names, marked ones too."""
    check_term(term)
    return free_in(term)


def part_at(term, path):
    """The part to which a path leads, None if it leads to none."""
    check_term(term)
    if not isinstance(path, tuple):
        return None
    part = term
    for index in path:
        part = _inner_at(part, index)
        if part is None:
            return None
    return part


def check_term(term):
    """Raise the error of what is no term."""
    place = _place_in_term(term)
    if place is not None:
        raise InvalidTerm(place)


def check_written(written):
    """Raise the error of what is no term as written."""
    place = _place_in_written(written)
    if place is not None:
        raise InvalidTerm(place)


def _inner_at(term, index):
    # True is equal to 1, but no index.
    if not is_whole(index):
        return None
    for at, inside, _ in inner_terms(term):
        if at == index:
            return inside
    return None


def _place_in_term(value):
    return _wrong_place(value, _DEEPEST, _DEEPEST_KIND, is_any_name)


def _place_in_written(value):
    place = _wrong_place(value, _DEEPEST_WRITTEN, _DEEPEST_KIND_WRITTEN, is_plain_name)
    if place is None and len(all_parts(value)) > _MOST_PARTS_WRITTEN:
        return ()
    return place


def _wrong_place(value, deepest, deepest_kind, is_right_name):
    """The path to what is wrong first in a value that should be a term, None if nothing is."""
    todo = [("term", value, ())]
    while todo:
        role, thing, path = todo.pop()
        if role == "term":
            if len(path) >= deepest or not is_formed(thing):
                return path
            roles = list(enumerate(SHAPES[thing[0]], 1))
            todo.extend([(inner, thing[index], path + (index,)) for index, inner in roles[::-1]])
        elif role == "name":
            if not is_right_name(thing):
                return path
        elif not _is_right(role, thing, deepest_kind):
            return path
    return None


def _is_right(role, thing, deepest_kind):
    """Whether an element that is neither a term nor a name is what it should be."""
    if role == "number":
        return is_whole(thing) and -_TOO_GREAT < thing < _TOO_GREAT
    if role == "sign":
        return isinstance(thing, str) and thing in SIGNS
    known = is_group_kind(thing) if role == "group" else is_kind(thing)
    return known and depth_of_kind(thing) <= deepest_kind
