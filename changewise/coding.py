"""Turns parts of terms into codes: rows of deeds that a Reckoner does one after another.

A deed works on what the ones ahead of it have made: ("name", NAME) and ("made", VALUE) make one thing more,
("one", RULE, TOLD) and ("two", RULE, TOLD) put what a rule tells in the place of the last one or two, by
what is told beside them; ("fn", NAME, PART) makes a function, and ("call",), ("let", NAME, PART),
("case", NAME, PART, NAME, PART) and ("total", KIND) go on with the codes of other parts.
"""

from changewise.groups import count_in, plus_in, support_in, times_in, zero_in


def code_of(part):
    """The code of a part.

    It is made when it is first asked for: of many a case just one side is, and of a function often none.
    """
    if part.code is None:
        part.code = []
        _add(part.code, part)
    return part.code


def _add(code, part):
    """Put the deeds of a part behind those of a code."""
    term, word = part.term, part.term[0]
    if word == "fn":
        code.append(("fn", term[1], part.parts[0]))
    elif word == "let":
        _add(code, part.parts[0])
        code.append(("let", term[1], part.parts[1]))
    elif word == "case":
        _add(code, part.parts[0])
        code.append(("case", term[2], part.parts[1], term[4], part.parts[2]))
    else:
        for inner in part.parts:
            _add(code, inner)
        code.append(_deed(part, term, word))


def _deed(part, term, word):
    """The deed of a term that reckons with all its parts."""
    if word == "name":
        return term
    if word == "number":
        return "made", term[1]
    if word == "unit":
        return "made", ()
    if word == "zero":
        return "made", zero_in(part.kind)
    if word == "call":
        return ("call",)
    if word == "total":
        return "total", part.kind
    if word == "is":
        return "two", _compared, term[1]
    many = "one" if len(part.parts) == 1 else "two"
    return many, _RULES[word], part.kind


def _minus(kind, one):
    return times_in(kind, -1, one)


def _times(kind, one, two):
    return one * two


def _pair(kind, one, two):
    return ("pair", one, two)


def _first(kind, one):
    return one[1]


def _second(kind, one):
    return one[2]


def _left(kind, one):
    return ("left", one)


def _right(kind, one):
    return ("right", one)


def _compared(sign, one, two):
    if sign == "<":
        so = one < two
    elif sign == "<=":
        so = one <= two
    else:
        so = one == two
    return ("left" if so else "right", ())


def _one_of(kind, one):
    return ((one, 1),)


def _count(kind, bag, value):
    return count_in(bag, value)


def _support(kind, bag):
    return support_in(bag)


def _plus(kind, one, two):
    return plus_in(kind, one, two)


_RULES = {
    "plus": _plus, "minus": _minus, "times": _times, "pair": _pair, "first": _first, "second": _second, "left": _left,
    "right": _right, "one": _one_of, "count": _count, "support": _support,
}
