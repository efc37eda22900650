"""Derivatives of terms as written, made from the text alone.

Names that are bound here alone have names that the whole term has nowhere, so they hide none and
none hides them. As terms as written have no marked names, a change hides nothing that they name.
"""

from changewise.changeterms import led_by, less_by, still_at
from changewise.kinded import without
from changewise.leading import kind_of_changes
from changewise.names import marked
from changewise.shapes import all_parts, term_places


def derivative_of(part, changing):
    """The derivative of the term that a Part is; a dict has the kinds of the names that may change."""
    return _derived(Place(changing, Spare(part.term)), part)


class Spare:
    """Gives names that a term has nowhere, each once."""

    def __init__(self, term):
        self.term = term
        # What names the term has is looked for only if one is asked for.
        self.used = None
        self.many = 0

    def fresh(self):
        if self.used is None:
            self.used = {}
            for part in all_parts(self.term):
                for told in part:
                    if isinstance(told, str):
                        self.used[told] = True
        self.many += 1
        while f"z{self.many}" in self.used:
            self.many += 1
        return f"z{self.many}"


class Place:
    """Where a part stands: the kinds of the names that may change there."""

    def __init__(self, changing, spare):
        self.changing = changing
        self.spare = spare

    def changed(self, names):
        """Those of the names that may change."""
        return [name for name in names if name in self.changing]

    def within(self, name, kind, may_change):
        """The place where a name is bound."""
        changing = {other: self.changing[other] for other in self.changing if other != name}
        if may_change:
            changing[name] = kind
        return Place(changing, self.spare)


def _derived(place, part):
    if place.changed(part.names) == []:
        return still_at(part.kind, part.term)
    rule = _RULES[part.term[0]]
    return rule(place, part)


def _name(place, part):
    return ("name", marked(part.term[1]))


def _fn(place, part):
    _, name, kind, _ = part.term
    inner = place.within(name, kind, True)
    return ("fn", name, kind, ("fn", marked(name), kind_of_changes(kind), _derived(inner, part.parts[0])))


def _call(place, part):
    function, argument = part.parts
    return ("call", ("call", _derived(place, function), argument.term), _derived(place, argument))


def _let(place, part):
    told, body = part.parts
    name = part.term[1]
    if place.changed(told.names) == []:
        return ("let", name, told.term, _derived(place.within(name, told.kind, False), body))
    inner = _derived(place.within(name, told.kind, True), body)
    return ("let", marked(name), _derived(place, told), ("let", name, told.term, inner))


def _by_parts(place, part):
    """Of deeds that lead a change of their parts as they lead the parts."""
    return (part.term[0],) + tuple([_derived(place, inner) for inner in part.parts])


def _plus(place, part):
    changes = [_derived(place, inner) for inner in part.parts if place.changed(inner.names)]
    return changes[0] if len(changes) == 1 else ("plus", changes[0], changes[1])


def _times(place, part):
    one, two = part.parts
    if place.changed(one.names) == []:
        return ("times", one.term, _derived(place, two))
    if place.changed(two.names) == []:
        return ("times", _derived(place, one), two.term)
    # Each change is told twice, so it is bound: told in full, products of products would grow twofold by each.
    first, second = place.spare.fresh(), place.spare.fresh()
    by_one, by_two = ("times", ("name", first), two.term), ("times", one.term, ("name", second))
    added = ("plus", ("plus", by_two, by_one), ("times", ("name", first), ("name", second)))
    return ("let", first, _derived(place, one), ("let", second, _derived(place, two), added))


def _left(place, part):
    kind = part.kind
    return ("left", ("left", _derived(place, part.parts[0]), kind_of_changes(kind[2])), kind)


def _right(place, part):
    kind = part.kind
    return ("left", ("right", kind_of_changes(kind[1]), _derived(place, part.parts[0])), kind)


def _case(place, part):
    _, _, one, _, two, _ = part.term
    told, left, right = part.parts
    may_change = place.changed(told.names) != []
    at_left = place.within(one, told.kind[1], may_change)
    at_right = place.within(two, told.kind[2], may_change)
    left_change, right_change = _derived(at_left, left), _derived(at_right, right)
    if not may_change:
        return ("case", told.term, one, left_change, two, right_change)
    # A change that fits is on the side that the term is on; for the other side any change will do.
    on_left = ("case", told.term, one, left_change, two, still_at(part.kind, right.term))
    on_right = ("case", told.term, one, still_at(part.kind, left.term), two, right_change)
    side, new = place.spare.fresh(), place.spare.fresh()
    on_side = ("case", ("name", side), marked(one), on_left, marked(two), on_right)
    by_new = _with_led_names(place, part, ("case", ("name", new), one, left.term, two, right.term))
    return ("case", _derived(place, told), side, on_side, new, less_by(part.kind, by_new, part.term))


def _with_led_names(place, part, by_new):
    """A case by a new value, in the names of its sides that may change led by their changes."""
    _, _, one, _, two, _ = part.term
    _, left, right = part.parts
    names = {**without(left.names, one), **without(right.names, two)}
    found = by_new
    for name in sorted(place.changed(names)):
        found = ("let", name, led_by(place.changing[name], ("name", name), ("name", marked(name))), found)
    return found


def _by_difference(place, part):
    """Of any other deed: what it does in the parts led, less what it does."""
    told = list(part.term)
    for index, inner in zip(term_places(part.term), part.parts):
        told[index] = _led_part(place, inner)
    return less_by(part.kind, tuple(told), part.term)


def _led_part(place, part):
    if place.changed(part.names) == []:
        return part.term
    return led_by(part.kind, part.term, _derived(place, part))


def _total(place, part):
    asked, bag = part.parts
    if place.changed(asked.names) == []:
        return ("total", asked.term, _derived(place, bag))
    if place.changed(bag.names) == []:
        return _total_of_changes(place, asked, bag.term)
    change = place.spare.fresh()
    moved = ("name", change)
    both = ("plus", ("total", asked.term, moved), _total_of_changes(place, asked, ("plus", bag.term, moved)))
    return ("let", change, _derived(place, bag), both)


def _total_of_changes(place, asked, bag):
    """What a function's changes tell of all that is in a bag as it is now."""
    plain = asked.kind[1]
    change, held = place.spare.fresh(), place.spare.fresh()
    answer = ("call", ("call", ("name", change), ("name", held)), still_at(plain, ("name", held)))
    return ("let", change, _derived(place, asked), ("total", ("fn", held, plain, answer), bag))


_RULES = {
    "name": _name, "fn": _fn, "call": _call, "let": _let, "plus": _plus, "minus": _by_parts, "times": _times,
    "pair": _by_parts, "first": _by_parts, "second": _by_parts, "left": _left, "right": _right, "case": _case,
    "is": _by_difference, "one": _by_difference, "count": _by_difference, "support": _by_difference, "total": _total,
}
