"""Derivatives of terms as written, made from the text alone.

Names that are bound here alone have names that the whole term has nowhere, so they hide none and
none hides them. As terms as written have no marked names, a change hides nothing that they name.
"""

from changewise.changeterms import led_by, less_by, still_at
from changewise.kinded import kind_in
from changewise.leading import kind_of_changes
from changewise.names import marked
from changewise.shapes import all_parts, free_in, inner_terms


def derivative_in(context, changing, term):
    """The derivative of a term in a dict of kinds, the names of a tuple being those that may change."""
    return _derived(Place(context, changing, Spare(term)), term)


class Spare:
    """Gives names that a term has nowhere, each once."""

    def __init__(self, term):
        self.used = {}
        for part in all_parts(term):
            for told in part:
                if isinstance(told, str):
                    self.used[told] = True
        self.many = 0

    def fresh(self):
        self.many += 1
        while f"z{self.many}" in self.used:
            self.many += 1
        return f"z{self.many}"


class Place:
    """Where a part stands: the kinds of the names, and which of these may change."""

    def __init__(self, context, changing, spare):
        self.context = context
        self.changing = changing
        self.spare = spare

    def kind_of_part(self, term):
        return kind_in(self.context, term)

    def changed(self, term):
        """The names that stand free in a term and may change."""
        return [name for name in free_in(term) if name in self.changing]

    def within(self, name, kind, may_change):
        """The place where a name is bound."""
        changing = [other for other in self.changing if other != name]
        if may_change:
            changing.append(name)
        return Place({**self.context, name: kind}, changing, self.spare)


def _derived(place, term):
    if place.changed(term) == []:
        return still_at(place.kind_of_part(term), term)
    rule = _RULES[term[0]]
    return rule(place, term)


def _name(place, term):
    return ("name", marked(term[1]))


def _fn(place, term):
    _, name, kind, body = term
    inner = place.within(name, kind, True)
    return ("fn", name, kind, ("fn", marked(name), kind_of_changes(kind), _derived(inner, body)))


def _call(place, term):
    _, function, argument = term
    return ("call", ("call", _derived(place, function), argument), _derived(place, argument))


def _let(place, term):
    _, name, told, body = term
    kind = place.kind_of_part(told)
    if place.changed(told) == []:
        return ("let", name, told, _derived(place.within(name, kind, False), body))
    inner = _derived(place.within(name, kind, True), body)
    return ("let", marked(name), _derived(place, told), ("let", name, told, inner))


def _by_parts(place, term):
    """Of deeds that lead a change of their parts as they lead the parts."""
    return (term[0],) + tuple([_derived(place, part) for part in term[1:]])


def _plus(place, term):
    changes = [_derived(place, part) for part in term[1:] if place.changed(part)]
    return changes[0] if len(changes) == 1 else ("plus", changes[0], changes[1])


def _times(place, term):
    _, one, two = term
    if place.changed(one) == []:
        return ("times", one, _derived(place, two))
    if place.changed(two) == []:
        return ("times", _derived(place, one), two)
    # Each change is told twice, so it is bound: told in full, products of products would grow twofold by each.
    first, second = place.spare.fresh(), place.spare.fresh()
    by_one, by_two = ("times", ("name", first), two), ("times", one, ("name", second))
    added = ("plus", ("plus", by_two, by_one), ("times", ("name", first), ("name", second)))
    return ("let", first, _derived(place, one), ("let", second, _derived(place, two), added))


def _left(place, term):
    kind = place.kind_of_part(term)
    return ("left", ("left", _derived(place, term[1]), kind_of_changes(kind[2])), kind)


def _right(place, term):
    kind = place.kind_of_part(term)
    return ("left", ("right", kind_of_changes(kind[1]), _derived(place, term[2])), kind)


def _case(place, term):
    _, told, one, left, two, right = term
    sides = place.kind_of_part(told)
    if place.changed(told) == []:
        left_change = _derived(place.within(one, sides[1], False), left)
        right_change = _derived(place.within(two, sides[2], False), right)
        return ("case", told, one, left_change, two, right_change)
    at_left, at_right = place.within(one, sides[1], True), place.within(two, sides[2], True)
    kind = place.kind_of_part(term)
    # A change that fits is on the side that the term is on; for the other side any change will do.
    on_left = ("case", told, one, _derived(at_left, left), two, still_at(kind, right))
    on_right = ("case", told, one, still_at(kind, left), two, _derived(at_right, right))
    side, new = place.spare.fresh(), place.spare.fresh()
    on_side = ("case", ("name", side), marked(one), on_left, marked(two), on_right)
    by_new = _with_led_names(place, ("case", ("name", new), one, left, two, right))
    return ("case", _derived(place, told), side, on_side, new, less_by(kind, by_new, term))


def _with_led_names(place, term):
    """The term in the names that may change led by their changes."""
    found = term
    for name in place.changed(term):
        kind = place.context[name]
        found = ("let", name, led_by(kind, ("name", name), ("name", marked(name))), found)
    return found


def _by_difference(place, term):
    """Of any other deed: what it does in the parts led, less what it does."""
    told = list(term)
    for index, part, _ in inner_terms(term):
        told[index] = _led_part(place, part)
    return less_by(place.kind_of_part(term), tuple(told), term)


def _led_part(place, part):
    if place.changed(part) == []:
        return part
    return led_by(place.kind_of_part(part), part, _derived(place, part))


def _total(place, term):
    _, asked, bag = term
    if place.changed(asked) == []:
        return ("total", asked, _derived(place, bag))
    if place.changed(bag) == []:
        return _total_of_changes(place, asked, bag)
    change = place.spare.fresh()
    moved = ("name", change)
    both = ("plus", ("total", asked, moved), _total_of_changes(place, asked, ("plus", bag, moved)))
    return ("let", change, _derived(place, bag), both)


def _total_of_changes(place, asked, bag):
    """What a function's changes tell of all that is in a bag as it is now."""
    plain = place.kind_of_part(asked)[1]
    change, held = place.spare.fresh(), place.spare.fresh()
    answer = ("call", ("call", ("name", change), ("name", held)), still_at(plain, ("name", held)))
    return ("let", change, _derived(place, asked), ("total", ("fn", held, plain, answer), bag))


_RULES = {
    "name": _name, "fn": _fn, "call": _call, "let": _let, "plus": _plus, "minus": _by_parts, "times": _times,
    "pair": _by_parts, "first": _by_parts, "second": _by_parts, "left": _left, "right": _right, "case": _case,
    "is": _by_difference, "one": _by_difference, "count": _by_difference, "support": _by_difference, "total": _total,
}
