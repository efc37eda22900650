"""Values of data kinds: what is one, their order, and how they are added."""

from changewise.errors import InvalidKind, InvalidNumber, InvalidPairs, InvalidValue
from changewise.groups import count_in, gathered, plus_in, support_in, times_in, zero_in
from changewise.kinds import is_bag_kind, is_data_kind, is_group_kind, is_plain_kind


def is_value(kind, value):
    """Whether a value, whatever it is, is one of a data kind."""
    if not is_data_kind(kind):
        raise InvalidKind(kind)
    return is_of(kind, value)


def order(kind, one, two):
    """-1, 0 or 1 as the first plain value is ahead, the same or behind."""
    if not is_plain_kind(kind):
        raise InvalidKind(kind)
    check_value(kind, one)
    check_value(kind, two)
    # Why Python's own order serves here is told at gathered.
    if one == two:
        return 0
    return -1 if one < two else 1


def zero_of(kind):
    """The zero of a group kind."""
    _check_group_kind(kind)
    return zero_in(kind)


def sum_of(kind, one, two):
    """The sum of two values of a group kind."""
    _check_group_kind(kind)
    check_value(kind, one)
    check_value(kind, two)
    return plus_in(kind, one, two)


def opposite(kind, one):
    """The opposite of a value of a group kind."""
    _check_group_kind(kind)
    check_value(kind, one)
    return times_in(kind, -1, one)


def many_of(kind, number, one):
    """A value of a group kind so many times."""
    _check_group_kind(kind)
    if not is_whole(number):
        raise InvalidNumber(number)
    check_value(kind, one)
    return times_in(kind, number, one)


def bag_of(kind, pairs):
    """The bag in which each value is as often as all its TIMES in the pairs."""
    _check_bag_kind(kind)
    if not isinstance(pairs, tuple):
        raise InvalidPairs(None)
    for index, pair in enumerate(pairs):
        if not _is_counted(kind[1], pair):
            raise InvalidPairs(index)
    return gathered(pairs)


def count_of(kind, bag, value):
    """How often a value is in a bag."""
    _check_bag_kind(kind)
    check_value(kind, bag)
    check_value(kind[1], value)
    return count_in(bag, value)


def support_of(kind, bag):
    """The bag that has each value with TIMES above 0 once."""
    _check_bag_kind(kind)
    check_value(kind, bag)
    return support_in(bag)


def is_whole(value):
    """Whether a value, whatever it is, is a whole number."""
    return isinstance(value, int) and not isinstance(value, bool)


def is_of(kind, value):
    """Whether a value, whatever it is, is one of what is known to be a data kind."""
    if kind[0] == "num":
        return is_whole(value)
    if not isinstance(value, tuple):
        return False
    if kind[0] == "unit":
        return len(value) == 0
    if kind[0] == "bag":
        return _is_bag(kind[1], value)
    if kind[0] == "pair":
        return _begins(value, "pair", 3) and is_of(kind[1], value[1]) and is_of(kind[2], value[2])
    if _begins(value, "left", 2):
        return is_of(kind[1], value[1])
    return _begins(value, "right", 2) and is_of(kind[2], value[1])


def check_value(kind, value):
    """Raise the error of a value that is none of what is known to be a data kind."""
    if not is_of(kind, value):
        raise InvalidValue(value)


def _check_group_kind(kind):
    if not is_group_kind(kind):
        raise InvalidKind(kind)


def _check_bag_kind(kind):
    if not is_bag_kind(kind):
        raise InvalidKind(kind)


def _begins(value, word, size):
    # An odd first element may call itself equal to anything; a text does not.
    return len(value) == size and isinstance(value[0], str) and value[0] == word


def _is_bag(plain, value):
    for row in value:
        if not _is_counted(plain, row) or row[1] == 0:
            return False
    for ahead, behind in zip(value, value[1:]):
        if not ahead[0] < behind[0]:
            return False
    return True


def _is_counted(plain, row):
    """Whether a row is a pair of a value of a plain kind and a whole number."""
    if not isinstance(row, tuple) or len(row) != 2:
        return False
    return is_of(plain, row[0]) and is_whole(row[1])
