"""Closed terms that lead values of any kind, functions too, and tell differences and still changes.

In these terms each name has the number of the step at which it is bound, so none hides another one.
What leads, and what is led, is told within by terms that cost nothing to reckon twice: names, and
first and second of these.
"""

from changewise.kinds import is_group_kind
from changewise.leading import kind_of_changes
from changewise.names import marked


def leading_term(kind):
    """Of the kind fun A (fun D(A) A): takes a value, and a change, to the value led."""
    led = _led(kind, _named("v"), _named("v'"), 1)
    return ("fn", "v", kind, ("fn", "v'", kind_of_changes(kind), led))


def difference_term(kind):
    """Of the kind fun A (fun A D(A)): takes the new value, and the old one, to the difference."""
    return ("fn", "v", kind, ("fn", "w", kind, _less(kind, _named("v"), _named("w"), 1)))


def stillness_term(kind):
    """Of the kind fun A D(A): takes a value to the still change at it."""
    return ("fn", "v", kind, _still(kind, _named("v"), 1))


def led_by(kind, term, change):
    """A term that leads what a term means by what another one does."""
    if is_group_kind(kind):
        return ("plus", term, change)
    return ("call", ("call", leading_term(kind), term), change)


def less_by(kind, new, old):
    """A term for the difference of what two terms mean."""
    if is_group_kind(kind):
        return ("plus", new, ("minus", old))
    return ("call", ("call", difference_term(kind), new), old)


def still_at(kind, term):
    """A term for the still change at what a term means."""
    if is_group_kind(kind):
        return ("zero", kind)
    return ("call", stillness_term(kind), term)


def _named(name):
    return ("name", name)


def _let(name, term, body):
    return ("let", name, term, body)


def _led(kind, value, change, step):
    if is_group_kind(kind):
        return ("plus", value, change)
    if kind[0] == "unit":
        return ("unit",)
    if kind[0] == "pair":
        firsts = _led(kind[1], ("first", value), ("first", change), step)
        return ("pair", firsts, _led(kind[2], ("second", value), ("second", change), step))
    if kind[0] == "either":
        return _led_side(kind, value, change, step)
    return _led_function(kind, value, change, step)


def _led_side(kind, value, change, step):
    """By a change on a side that the value is not on, it stays; by a new value it is that."""
    side, new, one, two = f"s{step}", f"n{step}", f"a{step}", f"b{step}"
    left = ("left", _led(kind[1], _named(one), _named(marked(one)), step + 1), kind[2])
    right = ("right", kind[1], _led(kind[2], _named(two), _named(marked(two)), step + 1))
    on_left = ("case", value, one, left, two, value)
    on_right = ("case", value, one, value, two, right)
    on_side = ("case", _named(side), marked(one), on_left, marked(two), on_right)
    return ("case", change, side, on_side, new, _named(new))


def _led_function(kind, value, change, step):
    told, answer = f"a{step}", f"r{step}"
    argument = _named(told)
    moved = ("call", ("call", change, argument), _still(kind[1], argument, step + 1))
    led = _led(kind[2], _named(answer), _named(marked(answer)), step + 1)
    body = _let(answer, ("call", value, argument), _let(marked(answer), moved, led))
    return ("fn", told, kind[1], body)


def _less(kind, new, old, step):
    if is_group_kind(kind):
        return ("plus", new, ("minus", old))
    if kind[0] == "unit":
        return ("unit",)
    if kind[0] == "pair":
        firsts = _less(kind[1], ("first", new), ("first", old), step)
        return ("pair", firsts, _less(kind[2], ("second", new), ("second", old), step))
    if kind[0] == "either":
        return _less_sides(kind, new, old, step)
    return _less_functions(kind, new, old, step)


def _less_sides(kind, new, old, step):
    one, two, was_one, was_two = f"a{step}", f"b{step}", f"c{step}", f"d{step}"
    left = _on_left(kind, _less(kind[1], _named(one), _named(was_one), step + 1))
    right = _on_right(kind, _less(kind[2], _named(two), _named(was_two), step + 1))
    told = ("right", kind_of_changes(kind)[1], new)
    now_left = ("case", old, was_one, left, was_two, told)
    now_right = ("case", old, was_one, told, was_two, right)
    return ("case", new, one, now_left, two, now_right)


def _less_functions(kind, new, old, step):
    told, now, was = f"a{step}", f"r{step}", f"q{step}"
    argument, change = _named(told), _named(marked(told))
    led = _led(kind[1], argument, change, step + 1)
    less = _less(kind[2], _named(now), _named(was), step + 1)
    body = _let(now, ("call", new, led), _let(was, ("call", old, argument), less))
    return ("fn", told, kind[1], ("fn", marked(told), kind_of_changes(kind[1]), body))


def _still(kind, value, step):
    if is_group_kind(kind):
        return ("zero", kind)
    if kind[0] == "unit":
        return ("unit",)
    if kind[0] == "pair":
        firsts = _still(kind[1], ("first", value), step)
        return ("pair", firsts, _still(kind[2], ("second", value), step))
    if kind[0] == "either":
        one, two = f"a{step}", f"b{step}"
        left = _on_left(kind, _still(kind[1], _named(one), step + 1))
        right = _on_right(kind, _still(kind[2], _named(two), step + 1))
        return ("case", value, one, left, two, right)
    return _less_functions(kind, value, value, step)


def _on_left(kind, change):
    """A change on the left side of an either kind."""
    return ("left", ("left", change, kind_of_changes(kind[2])), kind)


def _on_right(kind, change):
    """A change on the right side of an either kind."""
    return ("left", ("right", kind_of_changes(kind[1]), change), kind)
