"""Sums, opposites and counts of values that are known to be of their kinds.

Nothing is checked here: whoever calls these has checked it once, for all of it.
"""


def zero_in(kind):
    """The zero of a group kind."""
    if kind[0] == "num":
        return 0
    if kind[0] == "bag":
        return ()
    return ("pair", zero_in(kind[1]), zero_in(kind[2]))


def plus_in(kind, one, two):
    """The sum of two values of a group kind."""
    if kind[0] == "num":
        return one + two
    if kind[0] == "bag":
        return gathered(one + two)
    return ("pair", plus_in(kind[1], one[1], two[1]), plus_in(kind[2], one[2], two[2]))


def times_in(kind, number, one):
    """A value of a group kind so many times."""
    if kind[0] == "num":
        return number * one
    if kind[0] == "bag":
        return _bag_times(number, one)
    return ("pair", times_in(kind[1], number, one[1]), times_in(kind[2], number, one[2]))


def total_in(kind, values):
    """The sum of any number of values of a group kind.

    All bags are gathered at once: one by one each sum would walk through all that is there so far.
    """
    if kind[0] == "num":
        return sum(values)
    if kind[0] == "bag":
        return gathered([row for value in values for row in value])
    firsts = total_in(kind[1], [value[1] for value in values])
    return ("pair", firsts, total_in(kind[2], [value[2] for value in values]))


def gathered(pairs):
    """The bag of these pairs (VALUE, TIMES), in any order, a VALUE more than once too.

    Plain values of one kind are in order just as Python's tuples are: the texts
    ahead in them are alike or "left" ahead of "right", then their parts tell.
    """
    rows = []
    for value, many in sorted(pairs):
        if rows and rows[-1][0] == value:
            rows[-1] = (value, rows[-1][1] + many)
        else:
            rows.append((value, many))
    return tuple([row for row in rows if row[1] != 0])


def count_in(bag, value):
    """How often a value is in a bag."""
    for held, many in bag:
        if held == value:
            return many
    return 0


def support_in(bag):
    """Each value with TIMES above 0 once."""
    return tuple([(held, 1) for held, many in bag if many > 0])


def _bag_times(number, bag):
    # 0 times a value is no row of a bag.
    if number == 0:
        return ()
    return tuple([(held, number * many) for held, many in bag])
