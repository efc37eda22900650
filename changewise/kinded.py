"""Kinds of terms: what each part of a term is, found part by part."""

from changewise.errors import WrongTerm
from changewise.kinds import TRUTH, is_known_group, is_known_plain

_NUM = ("num",)
_UNIT = ("unit",)


class Part:
    """A part of a term: its kind, a dict of the names that stand free in it, and the parts among its elements.

    code is the row of deeds that it is reckoned by, None until it is asked for (coding.py).
    """

    def __init__(self, term, kind, names, parts):
        self.term = term
        self.kind = kind
        self.names = names
        self.parts = parts
        self.code = None


def kinded(context, term):
    """The Part that a term is, the context being a dict of kinds; what has no kind is told as WrongTerm."""
    return _kinded(context, term, ())


def kind_in(context, term):
    """The kind of a term in a dict of kinds."""
    return _kinded(context, term, ()).kind


def without(names, name):
    """The dict of names less one of them."""
    if name not in names:
        return names
    return {other: True for other in names if other != name}


def _kinded(context, term, path):
    rule = _RULES[term[0]]
    return rule(context, term, path)


def _need(holds, path, index):
    """Raise the error of a part, by its index in what a path leads to, if something does not hold."""
    if not holds:
        raise WrongTerm(path + (index,))


def _joined(one, two):
    """The dict of the names of both."""
    if not two:
        return one
    if not one:
        return two
    return {**one, **two}


def _name(context, term, path):
    if term[1] not in context:
        raise WrongTerm(path)
    return Part(term, context[term[1]], {term[1]: True}, ())


def _fn(context, term, path):
    body = _kinded({**context, term[1]: term[2]}, term[3], path + (3,))
    return Part(term, ("fun", term[2], body.kind), without(body.names, term[1]), (body,))


def _call(context, term, path):
    asked, told = _kinded(context, term[1], path + (1,)), _kinded(context, term[2], path + (2,))
    _need(asked.kind[0] == "fun", path, 1)
    _need(asked.kind[1] == told.kind, path, 2)
    return Part(term, asked.kind[2], _joined(asked.names, told.names), (asked, told))


def _let(context, term, path):
    told = _kinded(context, term[2], path + (2,))
    body = _kinded({**context, term[1]: told.kind}, term[3], path + (3,))
    return Part(term, body.kind, _joined(told.names, without(body.names, term[1])), (told, body))


def _unit(context, term, path):
    return Part(term, _UNIT, {}, ())


def _number(context, term, path):
    return Part(term, _NUM, {}, ())


def _zero(context, term, path):
    return Part(term, term[1], {}, ())


def _plus(context, term, path):
    one, two = _kinded(context, term[1], path + (1,)), _kinded(context, term[2], path + (2,))
    _need(is_known_group(one.kind), path, 1)
    _need(two.kind == one.kind, path, 2)
    return Part(term, one.kind, _joined(one.names, two.names), (one, two))


def _minus(context, term, path):
    part = _kinded(context, term[1], path + (1,))
    _need(is_known_group(part.kind), path, 1)
    return Part(term, part.kind, part.names, (part,))


def _times(context, term, path):
    one, two = _kinded(context, term[1], path + (1,)), _kinded(context, term[2], path + (2,))
    _need(one.kind == _NUM, path, 1)
    _need(two.kind == _NUM, path, 2)
    return Part(term, _NUM, _joined(one.names, two.names), (one, two))


def _pair(context, term, path):
    one, two = _kinded(context, term[1], path + (1,)), _kinded(context, term[2], path + (2,))
    return Part(term, ("pair", one.kind, two.kind), _joined(one.names, two.names), (one, two))


def _first(context, term, path):
    part = _kinded(context, term[1], path + (1,))
    _need(part.kind[0] == "pair", path, 1)
    return Part(term, part.kind[1], part.names, (part,))


def _second(context, term, path):
    part = _kinded(context, term[1], path + (1,))
    _need(part.kind[0] == "pair", path, 1)
    return Part(term, part.kind[2], part.names, (part,))


def _left(context, term, path):
    part = _kinded(context, term[1], path + (1,))
    return Part(term, ("either", part.kind, term[2]), part.names, (part,))


def _right(context, term, path):
    part = _kinded(context, term[2], path + (2,))
    return Part(term, ("either", term[1], part.kind), part.names, (part,))


def _case(context, term, path):
    told = _kinded(context, term[1], path + (1,))
    _need(told.kind[0] == "either", path, 1)
    left = _kinded({**context, term[2]: told.kind[1]}, term[3], path + (3,))
    right = _kinded({**context, term[4]: told.kind[2]}, term[5], path + (5,))
    _need(right.kind == left.kind, path, 5)
    names = _joined(without(left.names, term[2]), without(right.names, term[4]))
    return Part(term, left.kind, _joined(told.names, names), (told, left, right))


def _is(context, term, path):
    one, two = _kinded(context, term[2], path + (2,)), _kinded(context, term[3], path + (3,))
    _need(one.kind == _NUM, path, 2)
    _need(two.kind == _NUM, path, 3)
    return Part(term, TRUTH, _joined(one.names, two.names), (one, two))


def _one_of(context, term, path):
    part = _kinded(context, term[1], path + (1,))
    _need(is_known_plain(part.kind), path, 1)
    return Part(term, ("bag", part.kind), part.names, (part,))


def _total(context, term, path):
    asked, bag = _kinded(context, term[1], path + (1,)), _kinded(context, term[2], path + (2,))
    kind = asked.kind
    _need(kind[0] == "fun" and is_known_plain(kind[1]) and is_known_group(kind[2]), path, 1)
    _need(bag.kind == ("bag", kind[1]), path, 2)
    return Part(term, kind[2], _joined(asked.names, bag.names), (asked, bag))


def _count(context, term, path):
    bag, held = _kinded(context, term[1], path + (1,)), _kinded(context, term[2], path + (2,))
    _need(bag.kind[0] == "bag", path, 1)
    _need(held.kind == bag.kind[1], path, 2)
    return Part(term, _NUM, _joined(bag.names, held.names), (bag, held))


def _support(context, term, path):
    bag = _kinded(context, term[1], path + (1,))
    _need(bag.kind[0] == "bag", path, 1)
    return Part(term, bag.kind, bag.names, (bag,))


_RULES = {
    "name": _name, "fn": _fn, "call": _call, "let": _let, "unit": _unit, "number": _number, "plus": _plus,
    "minus": _minus, "times": _times, "zero": _zero, "pair": _pair, "first": _first, "second": _second, "left": _left,
    "right": _right, "case": _case, "is": _is, "one": _one_of, "total": _total, "count": _count, "support": _support,
}
