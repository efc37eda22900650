"""Words, names and marked names: what is one, sign by sign."""

# A dict, since it is asked of each name.
WORDS = {
    "fn": True, "let": True, "in": True, "case": True, "unit": True, "num": True, "bag": True, "zero": True,
    "first": True, "second": True, "left": True, "right": True, "one": True, "total": True, "count": True,
    "support": True, "input": True, "cell": True,
}
MARK = "'"
LONGEST_NAME = 8
LONGEST_MARK = 8


def is_letter(sign):
    """Whether one sign is a small letter a to z."""
    return "a" <= sign <= "z"


def is_figure(sign):
    """Whether one sign is a figure 0 to 9; other alphabets have figures, too, which are none here."""
    return "0" <= sign <= "9"


def is_plain_name(value):
    """Whether a value, whatever it is, is a name, not a marked one."""
    if not isinstance(value, str) or not 1 <= len(value) <= LONGEST_NAME or not is_letter(value[0]):
        return False
    return value.isascii() and value.isalnum() and value.islower() and value not in WORDS


def is_any_name(value):
    """Whether a value, whatever it is, is a name or a marked one."""
    if not isinstance(value, str):
        return False
    name, _, behind = value.partition(MARK)
    others = [sign for sign in behind if not is_figure(sign)]
    return is_plain_name(name) and others == [] and len(behind) <= LONGEST_MARK


def marked(name):
    """The name of the change of a name."""
    return name + MARK
