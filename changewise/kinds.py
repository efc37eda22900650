"""Kinds: what is one, which are plain, data and group ones, how deep they are."""

from changewise.errors import InvalidKind

TRUTH = ("either", ("unit",), ("unit",))

_PARTS = {"unit": 0, "num": 0, "pair": 2, "either": 2, "bag": 1, "fun": 2}
_PLAIN_WORDS = ("unit", "num", "pair", "either")
_DATA_WORDS = ("unit", "num", "pair", "either", "bag")
_DEEPEST = 100


def is_kind(value):
    """Whether a value, whatever it is, is a kind."""
    return _is_kind_within(value, _DEEPEST)


def is_plain_kind(value):
    """Whether a value, whatever it is, is a plain kind."""
    return is_kind(value) and is_known_plain(value)


def is_data_kind(value):
    """Whether a value, whatever it is, is a data kind."""
    return is_kind(value) and is_known_data(value)


def is_group_kind(value):
    """Whether a value, whatever it is, is a group kind."""
    return is_kind(value) and is_known_group(value)


def is_bag_kind(value):
    """Whether a value, whatever it is, is the kind of a bag."""
    return is_kind(value) and value[0] == "bag"


def depth_of_kind(kind):
    """How deep a kind is."""
    if not is_kind(kind):
        raise InvalidKind(kind)
    return known_depth(kind)


def _is_kind_within(value, room):
    # What is nested deeper than a kind is left alone, so the stack can't run out.
    if room == 0 or not _has_form(value):
        return False
    for part in value[1:]:
        if not _is_kind_within(part, room - 1):
            return False
    return value[0] != "bag" or _is_made_of(value[1], _PLAIN_WORDS)


def _has_form(value):
    """Whether a value is a word of kinds with as many parts as it takes."""
    if not isinstance(value, tuple) or len(value) == 0:
        return False
    # What is no text may have no place in a dict, so it is not looked up.
    if not isinstance(value[0], str) or value[0] not in _PARTS:
        return False
    return len(value) == 1 + _PARTS[value[0]]


def _is_made_of(kind, words):
    """Whether no words but these stand in a kind."""
    if kind[0] not in words:
        return False
    for part in kind[1:]:
        if not _is_made_of(part, words):
            return False
    return True


def is_known_plain(kind):
    """Whether what is known to be a kind is plain."""
    return _is_made_of(kind, _PLAIN_WORDS)


def is_known_data(kind):
    """Whether what is known to be a kind is a data kind."""
    return _is_made_of(kind, _DATA_WORDS)


def is_known_group(kind):
    """Whether what is known to be a kind is a group kind."""
    if kind[0] == "pair":
        return is_known_group(kind[1]) and is_known_group(kind[2])
    return kind[0] in ("num", "bag")


def known_depth(kind):
    """How deep what is known to be a kind is."""
    deepest = 0
    for part in kind[1:]:
        deepest = max(deepest, known_depth(part))
    return 1 + deepest


