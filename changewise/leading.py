"""Changes of values that are known to be of their data kinds, and kinds of changes.

Nothing is checked here: whoever calls these has checked it once, for all of it.
"""

from changewise.groups import plus_in, times_in


def kind_of_changes(kind):
    """The kind of changes of a kind."""
    if kind[0] == "pair":
        return ("pair", kind_of_changes(kind[1]), kind_of_changes(kind[2]))
    if kind[0] == "either":
        return ("either", ("either", kind_of_changes(kind[1]), kind_of_changes(kind[2])), kind)
    if kind[0] == "fun":
        return ("fun", kind[1], ("fun", kind_of_changes(kind[1]), kind_of_changes(kind[2])))
    return kind


def fits_in(kind, value, change):
    """Whether a change of the kind fits a value."""
    if kind[0] == "pair":
        return fits_in(kind[1], value[1], change[1]) and fits_in(kind[2], value[2], change[2])
    if kind[0] == "either" and change[0] == "left":
        side = change[1]
        return side[0] == value[0] and fits_in(_side_kind(kind, value), value[1], side[1])
    return True


def led_in(kind, value, change):
    """A value led by a change, whether it fits or not."""
    if kind[0] == "unit":
        return ()
    if kind[0] == "pair":
        return ("pair", led_in(kind[1], value[1], change[1]), led_in(kind[2], value[2], change[2]))
    if kind[0] == "either":
        return _led_side(kind, value, change)
    return plus_in(kind, value, change)


def less_in(kind, new, old):
    """The difference of two values: what leads the old one to the new one."""
    if kind[0] == "unit":
        return ()
    if kind[0] == "pair":
        return ("pair", less_in(kind[1], new[1], old[1]), less_in(kind[2], new[2], old[2]))
    if kind[0] == "either":
        if new[0] != old[0]:
            return ("right", new)
        return ("left", (new[0], less_in(_side_kind(kind, new), new[1], old[1])))
    return plus_in(kind, new, times_in(kind, -1, old))


def joined_in(kind, value, one, two):
    """One change that fits the value, and then another one that fits where it leads."""
    if kind[0] == "unit":
        return ()
    if kind[0] == "pair":
        firsts = joined_in(kind[1], value[1], one[1], two[1])
        return ("pair", firsts, joined_in(kind[2], value[2], one[2], two[2]))
    if kind[0] == "either":
        return _joined_sides(kind, value, one, two)
    return plus_in(kind, one, two)


def back_in(kind, value, change):
    """The change back from where a change leads the value."""
    return less_in(kind, value, led_in(kind, value, change))


def _side_kind(kind, value):
    return kind[1] if value[0] == "left" else kind[2]


def _led_side(kind, value, change):
    if change[0] == "right":
        return change[1]
    side = change[1]
    if side[0] != value[0]:
        return value
    return (value[0], led_in(_side_kind(kind, value), value[1], side[1]))


def _joined_sides(kind, value, one, two):
    if two[0] == "right":
        return two
    if one[0] == "right":
        return ("right", led_in(kind, one[1], two))
    # Both fit, so both are on the side of the value.
    both = joined_in(_side_kind(kind, value), value[1], one[1][1], two[1][1])
    return ("left", (value[0], both))
