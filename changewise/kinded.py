"""Kinds of terms: each part of a term gets its kind put behind its elements."""

from changewise.errors import WrongTerm
from changewise.kinds import TRUTH, is_group_kind, is_plain_kind
from changewise.shapes import inner_terms

_NUM = ("num",)


def kinded(context, term):
    """The term with the kind of each part behind that part's elements, its own one last of all.

    The context is a dict of kinds. What has no kind is told as WrongTerm.
    """
    return _kinded(context, term, ())


def kind_in(context, term):
    """The kind of a term in a dict of kinds."""
    return kinded(context, term)[-1]


def _kinded(context, term, path):
    told, kinds = list(term), {}
    for index, part, name in inner_terms(term):
        inner = context
        if name is not None:
            inner = {**context, name: _bound_kind(term, index, kinds, path)}
        told[index] = _kinded(inner, part, path + (index,))
        kinds[index] = told[index][-1]
    if term[0] == "name":
        _need(term[1] in context, path)
        kind = context[term[1]]
    else:
        rule = _RULES[term[0]]
        kind = rule(term, kinds, path)
    return tuple(told) + (kind,)


def _bound_kind(term, index, kinds, path):
    """The kind of the name that is bound in the part at an index, by those of the parts ahead."""
    if term[0] == "fn":
        return term[2]
    if term[0] == "let":
        return kinds[2]
    _need(kinds[1][0] == "either", path + (1,))
    return kinds[1][1] if index == 3 else kinds[1][2]


def _need(holds, path):
    if not holds:
        raise WrongTerm(path)


def _fn(term, kinds, path):
    return ("fun", term[2], kinds[3])


def _call(term, kinds, path):
    _need(kinds[1][0] == "fun", path + (1,))
    _need(kinds[1][1] == kinds[2], path + (2,))
    return kinds[1][2]


def _let(term, kinds, path):
    return kinds[3]


def _unit(term, kinds, path):
    return ("unit",)


def _number(term, kinds, path):
    return _NUM


def _plus(term, kinds, path):
    _need(is_group_kind(kinds[1]), path + (1,))
    _need(kinds[2] == kinds[1], path + (2,))
    return kinds[1]


def _minus(term, kinds, path):
    _need(is_group_kind(kinds[1]), path + (1,))
    return kinds[1]


def _times(term, kinds, path):
    _need(kinds[1] == _NUM, path + (1,))
    _need(kinds[2] == _NUM, path + (2,))
    return _NUM


def _zero(term, kinds, path):
    return term[1]


def _pair(term, kinds, path):
    return ("pair", kinds[1], kinds[2])


def _first(term, kinds, path):
    _need(kinds[1][0] == "pair", path + (1,))
    return kinds[1][1]


def _second(term, kinds, path):
    _need(kinds[1][0] == "pair", path + (1,))
    return kinds[1][2]


def _left(term, kinds, path):
    return ("either", kinds[1], term[2])


def _right(term, kinds, path):
    return ("either", term[1], kinds[2])


def _case(term, kinds, path):
    _need(kinds[5] == kinds[3], path + (5,))
    return kinds[3]


def _is(term, kinds, path):
    _need(kinds[2] == _NUM, path + (2,))
    _need(kinds[3] == _NUM, path + (3,))
    return TRUTH


def _one(term, kinds, path):
    _need(is_plain_kind(kinds[1]), path + (1,))
    return ("bag", kinds[1])


def _total(term, kinds, path):
    asked = kinds[1]
    _need(asked[0] == "fun" and is_plain_kind(asked[1]) and is_group_kind(asked[2]), path + (1,))
    _need(kinds[2] == ("bag", asked[1]), path + (2,))
    return asked[2]


def _count(term, kinds, path):
    _need(kinds[1][0] == "bag", path + (1,))
    _need(kinds[2] == kinds[1][1], path + (2,))
    return _NUM


def _support(term, kinds, path):
    _need(kinds[1][0] == "bag", path + (1,))
    return kinds[1]


_RULES = {
    "fn": _fn, "call": _call, "let": _let, "unit": _unit, "number": _number, "plus": _plus, "minus": _minus,
    "times": _times, "zero": _zero, "pair": _pair, "first": _first, "second": _second, "left": _left,
    "right": _right, "case": _case, "is": _is, "one": _one, "total": _total, "count": _count, "support": _support,
}
