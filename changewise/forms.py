"""The forms of texts, as rows that a reading goes by.

Each form has rows (FIRST, SYMBOLS): the first row of which FIRST is the next token's sort, or None,
is taken. Symbols are sorts of tokens, forms, and tuples that tell what is made of what was read:
("build", HEAD, MANY) puts HEAD ahead of the last so many things, ("value", KIND) is the form of values
of a kind, ("value read",) that of the kind read last, ("begin",) begins the rows of a bag, ("row",)
adds one, ("bag",) ends them, ("rows", KIND) and ("more rows", KIND) are rows up to the end. With a dict
of kinds by names, ("told", KINDS) are names and values of their kinds, ("more told", KINDS) what is behind
one of these, ("known", KINDS) is nothing but a check of the name read last, and ("value named", KINDS) is
the form of values of its kind.
"""

FORMS = {
    # Kinds: all of them, then plain ones, data ones, group ones.
    "KIND": ((None, ("EITHER", "KIND TAIL")),),
    "KIND TAIL": (("->", ("->", "KIND", ("build", ("fun",), 2))), (None, ())),
    "EITHER": ((None, ("SINGLE", "EITHER TAIL")),),
    "EITHER TAIL": (("|", ("|", "SINGLE", ("build", ("either",), 2), "EITHER TAIL")), (None, ())),
    "SINGLE": (
        ("unit", ("unit", ("build", ("unit",), 0))),
        ("num", ("num", ("build", ("num",), 0))),
        ("bag", ("bag", "PLAIN SINGLE", ("build", ("bag",), 1))),
        ("(", ("(", "KIND", "SINGLE TAIL")),
    ),
    "SINGLE TAIL": ((",", (",", "KIND", ")", ("build", ("pair",), 2))), (None, (")",))),
    "PLAIN": ((None, ("PLAIN SINGLE", "PLAIN TAIL")),),
    "PLAIN TAIL": (("|", ("|", "PLAIN SINGLE", ("build", ("either",), 2), "PLAIN TAIL")), (None, ())),
    "PLAIN SINGLE": (
        ("unit", ("unit", ("build", ("unit",), 0))),
        ("num", ("num", ("build", ("num",), 0))),
        ("(", ("(", "PLAIN", "PLAIN SINGLE TAIL")),
    ),
    "PLAIN SINGLE TAIL": ((",", (",", "PLAIN", ")", ("build", ("pair",), 2))), (None, (")",))),
    "DATA": ((None, ("DATA SINGLE", "DATA TAIL")),),
    "DATA TAIL": (("|", ("|", "DATA SINGLE", ("build", ("either",), 2), "DATA TAIL")), (None, ())),
    "DATA SINGLE": (
        ("unit", ("unit", ("build", ("unit",), 0))),
        ("num", ("num", ("build", ("num",), 0))),
        ("bag", ("bag", "PLAIN SINGLE", ("build", ("bag",), 1))),
        ("(", ("(", "DATA", "DATA SINGLE TAIL")),
    ),
    "DATA SINGLE TAIL": ((",", (",", "DATA", ")", ("build", ("pair",), 2))), (None, (")",))),
    "GROUP": (
        ("num", ("num", ("build", ("num",), 0))),
        ("bag", ("bag", "PLAIN SINGLE", ("build", ("bag",), 1))),
        ("(", ("(", "GROUP", "GROUP TAIL")),
    ),
    "GROUP TAIL": ((",", (",", "GROUP", ")", ("build", ("pair",), 2))), (None, (")",))),
    # Terms.
    "TERM": (
        ("fn", ("fn", "ANY NAME", ":", "KIND", ".", "TERM", ("build", ("fn",), 3))),
        ("let", ("let", "ANY NAME", "=", "TERM", "in", "TERM", ("build", ("let",), 3))),
        (None, ("SUM", "IS TAIL")),
    ),
    "ANY NAME": (("MARKED", ("MARKED",)), (None, ("NAME",))),
    "IS TAIL": (
        ("<", ("<", "SUM", ("build", ("is", "<"), 2))),
        ("<=", ("<=", "SUM", ("build", ("is", "<="), 2))),
        ("==", ("==", "SUM", ("build", ("is", "=="), 2))),
        (None, ()),
    ),
    "SUM": ((None, ("PRODUCT", "SUM TAIL")),),
    "SUM TAIL": (("+", ("+", "PRODUCT", ("build", ("plus",), 2), "SUM TAIL")), (None, ())),
    "PRODUCT": ((None, ("SIGNED", "PRODUCT TAIL")),),
    "PRODUCT TAIL": (("*", ("*", "SIGNED", ("build", ("times",), 2), "PRODUCT TAIL")), (None, ())),
    "SIGNED": (("-", ("-", "SIGNED", ("build", ("minus",), 1))), (None, ("ATOM", "CALL TAIL"))),
    "CALL TAIL": (("(", ("(", "TERM", ")", ("build", ("call",), 2), "CALL TAIL")), (None, ())),
    "ATOM": (
        ("NAME", ("NAME", ("build", ("name",), 1))),
        ("MARKED", ("MARKED", ("build", ("name",), 1))),
        ("NUMBER", ("NUMBER", ("build", ("number",), 1))),
        ("(", ("(", "BRACKET TAIL")),
        ("zero", ("zero", "(", "GROUP", ")", ("build", ("zero",), 1))),
        ("first", ("first", "(", "TERM", ")", ("build", ("first",), 1))),
        ("second", ("second", "(", "TERM", ")", ("build", ("second",), 1))),
        ("one", ("one", "(", "TERM", ")", ("build", ("one",), 1))),
        ("support", ("support", "(", "TERM", ")", ("build", ("support",), 1))),
        ("total", ("total", "(", "TERM", ",", "TERM", ")", ("build", ("total",), 2))),
        ("count", ("count", "(", "TERM", ",", "TERM", ")", ("build", ("count",), 2))),
        ("left", ("left", "(", "TERM", ",", "KIND", ")", ("build", ("left",), 2))),
        ("right", ("right", "(", "KIND", ",", "TERM", ")", ("build", ("right",), 2))),
        ("case", ("case", "TERM", "{", "SIDE", ";", "SIDE", "}", ("build", ("case",), 5))),
    ),
    "BRACKET TAIL": ((")", (")", ("build", ("unit",), 0))), (None, ("TERM", "PAIR TAIL"))),
    "PAIR TAIL": ((",", (",", "TERM", ")", ("build", ("pair",), 2))), (None, (")",))),
    "SIDE": ((None, ("ANY NAME", ".", "TERM")),),
    # Sheets: the cells stay behind one another as they are made.
    "SHEET": (
        ("input", ("input", "NAME", ":", "DATA", "=", ("value read",), ";", ("build", ("input",), 3), "SHEET")),
        ("cell", ("cell", "NAME", "=", "TERM", ";", ("build", ("cell",), 2), "SHEET")),
        (None, ()),
    ),
}


def value_row(kind, sort):
    """The symbols of a value of a kind, the next token being of a sort."""
    if kind[0] == "unit":
        return "(", ")", ("build", (), 0)
    if kind[0] == "num":
        return ("NUMBER",)
    if kind[0] == "pair":
        return "(", ("value", kind[1]), ",", ("value", kind[2]), ")", ("build", ("pair",), 2)
    if kind[0] == "bag":
        return "{", ("begin",), ("rows", kind[1])
    if sort == "right":
        return "right", "(", ("value", kind[2]), ")", ("build", ("right",), 1)
    return "left", "(", ("value", kind[1]), ")", ("build", ("left",), 1)


def rows_row(kind, sort):
    """The symbols of the rows of a bag of a plain kind, none or some, and what ends them."""
    if sort == "}":
        return "}", ("bag",)
    return ("value", kind), ":", "NUMBER", ("row",), ("more rows", kind)


def more_rows_row(kind, sort):
    """The symbols behind a row of a bag of a plain kind."""
    if sort == ",":
        return ",", ("value", kind), ":", "NUMBER", ("row",), ("more rows", kind)
    return "}", ("bag",)


def told_row(kinds):
    """The symbols of names with values."""
    return "NAME", ("known", kinds), "=", ("value named", kinds), ("more told", kinds)


def more_told_row(kinds, sort):
    """The symbols behind a name with a value."""
    if sort == ";":
        return ";", ("told", kinds)
    return ()
