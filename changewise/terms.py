"""Terms: what is one, what is one as written, their parts, free names and depth."""

from changewise.errors import InvalidTerm
from changewise.kinds import is_group_kind, is_kind, known_depth
from changewise.names import is_any_name, is_plain_name
from changewise.shapes import SIGNS, all_parts, free_in, roles_in, term_places
from changewise.values import is_whole

_DEEPEST = 100
_DEEPEST_WRITTEN = 12
_DEEPEST_KIND = 100
_DEEPEST_KIND_WRITTEN = 6
_MOST_PARTS_WRITTEN = 120
# The first number of 401 figures.
_TOO_GREAT = (10 ** 50) ** 8


def is_name(value):
    """Whether a value, whatever it is, is a name, not a marked one."""
    return is_plain_name(value)


def is_term(value):
    """Whether a value, whatever it is, is a term."""
    return _place_in_term(value) is None


def is_written(value):
    """Whether a value, whatever it is, is a term as written."""
    return _place_in_written(value) is None


def parts_of(term):
    """How many parts a term has."""
    check_term(term)
    return len(all_parts(term))


def depth_of(term):
    """How deep a term is."""
    check_term(term)
    depth, level = 0, [term]
    while level:
        depth += 1
        level = [part[index] for part in level for index in term_places(part)]
    return depth


def free_names(term):
    """The ascending tuple of a term's free names, marked ones too."""
    check_term(term)
    return free_in(term)


def part_at(term, path):
    """The part to which a path leads, None if it leads to none."""
    check_term(term)
    if not isinstance(path, tuple):
        return None
    part = term
    for index in path:
        part = _inner_at(part, index)
        if part is None:
            return None
    return part


def check_term(term):
    """Raise the error of what is no term."""
    place = _place_in_term(term)
    if place is not None:
        raise InvalidTerm(place)


def check_written(written):
    """Raise the error of what is no term as written."""
    place = _place_in_written(written)
    if place is not None:
        raise InvalidTerm(place)


def _inner_at(term, index):
    # True is equal to 1, but no index.
    if is_whole(index) and index in term_places(term):
        return term[index]
    return None


def _place_in_term(value):
    if _parts_of_right(value, _DEEPEST, _DEEPEST_KIND, is_any_name) is not None:
        return None
    return _wrong_place(value, _DEEPEST, _DEEPEST_KIND, is_any_name)


def _place_in_written(value):
    many = _parts_of_right(value, _DEEPEST_WRITTEN, _DEEPEST_KIND_WRITTEN, is_plain_name)
    if many is None:
        return _wrong_place(value, _DEEPEST_WRITTEN, _DEEPEST_KIND_WRITTEN, is_plain_name)
    return None if many <= _MOST_PARTS_WRITTEN else ()


def _parts_of_right(value, deepest, deepest_kind, is_right_name):
    """How many parts a value has that is a term as asked for; None for another one.

    Most of what is asked for is right, so where it is wrong is looked for only if it is.
    """
    level, many = [value], 0
    for _ in range(deepest):
        below = []
        for thing in level:
            roles = roles_in(thing)
            if roles is None:
                return None
            for role, inner in zip(roles, thing[1:]):
                if role == "term":
                    below.append(inner)
                elif not _is_right(role, inner, deepest_kind, is_right_name):
                    return None
        many += len(level)
        level = below
    return many if level == [] else None


def _wrong_place(value, deepest, deepest_kind, is_right_name):
    """The path to what is wrong first in a value that should be a term, None if nothing is."""
    todo = [("term", value, ())]
    while todo:
        role, thing, path = todo.pop()
        if role != "term":
            if not _is_right(role, thing, deepest_kind, is_right_name):
                return path
        elif len(path) >= deepest or roles_in(thing) is None:
            return path
        else:
            roles = list(enumerate(roles_in(thing), 1))
            todo.extend([(inner, thing[index], path + (index,)) for index, inner in roles[::-1]])
    return None


def _is_right(role, thing, deepest_kind, is_right_name):
    """Whether an element that is no term is what it should be."""
    if role == "name":
        return is_right_name(thing)
    if role == "number":
        return is_whole(thing) and -_TOO_GREAT < thing < _TOO_GREAT
    if role == "sign":
        return isinstance(thing, str) and thing in SIGNS
    known = is_group_kind(thing) if role == "group" else is_kind(thing)
    return known and known_depth(thing) <= deepest_kind
