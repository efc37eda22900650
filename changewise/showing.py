"""Shows kinds, values and terms as texts, with brackets just where they are due.

What is still to be shown stands in a list, so that what is deep needs no deep calls.
"""

from changewise.shapes import SHAPES

# What goes on as far as it can, and so needs brackets wherever something stands beside it.
_LOOSE = ("fn", "let", "is")
_OPERATORS = {"plus": " + ", "times": " * "}
# Brackets stand round these on the left side of an operator, and on the right side.
_LEFT = {"plus": ("fn", "let", "is"), "times": ("fn", "let", "is", "plus")}
_RIGHT = {"plus": ("fn", "let", "is", "plus"), "times": ("fn", "let", "is", "plus", "times")}
_CALLED = ("fn", "let", "is", "plus", "times", "minus")
_NEGATED = ("fn", "let", "is", "plus", "times")
_FIGURES = 400
_TOO_LONG = (10 ** 50) ** 8


def kind_shown(kind):
    """The text of what is known to be a kind."""
    return _shown(("kind", kind))


def term_shown(term):
    """The text of what is known to be a term."""
    return _shown(("term", term))


def value_shown(kind, value):
    """The text of what is known to be a value of a data kind."""
    return _shown(("value", value, kind))


def _shown(thing):
    found, todo = [], [thing]
    while todo:
        piece = todo.pop()
        if isinstance(piece, str):
            found.append(piece)
        else:
            todo.extend(_pieces(piece)[::-1])
    return "".join(found)


def _pieces(thing):
    """The texts and the inner things of which a thing is shown, in order."""
    if thing[0] == "kind":
        return _kind_pieces(thing[1])
    if thing[0] == "term":
        return _term_pieces(thing[1])
    return _value_pieces(thing[2], thing[1])


def _around(sort, thing, words):
    """A kind or term, in brackets if it begins with one of the words."""
    if thing[0] in words:
        return ["(", (sort, thing), ")"]
    return [(sort, thing)]


def _kind_pieces(kind):
    if kind[0] == "bag":
        return ["bag ", *_around("kind", kind[1], ("fun", "either"))]
    if kind[0] == "pair":
        return ["(", ("kind", kind[1]), ", ", ("kind", kind[2]), ")"]
    if kind[0] == "either":
        return [*_around("kind", kind[1], ("fun",)), " | ", *_around("kind", kind[2], ("fun", "either"))]
    if kind[0] == "fun":
        return [*_around("kind", kind[1], ("fun",)), " -> ", ("kind", kind[2])]
    return [kind[0]]


def _value_pieces(kind, value):
    if kind[0] == "num":
        return ["-" if value < 0 else "", *_figures(abs(value))]
    if kind[0] == "unit":
        return ["()"]
    if kind[0] == "pair":
        return ["(", ("value", value[1], kind[1]), ", ", ("value", value[2], kind[2]), ")"]
    if kind[0] == "either":
        side = kind[1] if value[0] == "left" else kind[2]
        return [value[0], "(", ("value", value[1], side), ")"]
    found = ["{"]
    for held, many in value:
        # The first row alone has nothing ahead of it.
        found.extend([", " if len(found) > 1 else "", ("value", held, kind[1]), f": {many}"])
    return found + ["}"]


def _figures(number):
    """The texts of which the figures of a number that is not below 0 are put together.

    Python makes no text of a number of some thousands of figures, so these are told by 400.
    """
    found = []
    while number >= _TOO_LONG:
        number, behind = divmod(number, _TOO_LONG)
        found.append(str(behind).zfill(_FIGURES))
    return [str(number)] + found[::-1]


def _term_pieces(term):
    word = term[0]
    if word == "name":
        return [term[1]]
    if word == "number":
        return [str(term[1])]
    if word == "unit":
        return ["()"]
    if word in ("fn", "let", "case"):
        return _binding_pieces(term)
    if word in _OPERATORS:
        left, right = _around("term", term[1], _LEFT[word]), _around("term", term[2], _RIGHT[word])
        return [*left, _OPERATORS[word], *right]
    if word == "is":
        return [*_around("term", term[2], _LOOSE), f" {term[1]} ", *_around("term", term[3], _LOOSE)]
    if word == "minus":
        return ["-", *_negated(term[1])]
    if word == "call":
        return [*_around("term", term[1], _CALLED), "(", ("term", term[2]), ")"]
    return _listed_pieces(term)


def _binding_pieces(term):
    if term[0] == "fn":
        return ["fn ", term[1], ": ", ("kind", term[2]), ". ", ("term", term[3])]
    if term[0] == "let":
        return ["let ", term[1], " = ", ("term", term[2]), " in ", ("term", term[3])]
    sides = [term[2], ". ", ("term", term[3]), "; ", term[4], ". ", ("term", term[5])]
    return ["case ", ("term", term[1]), " {", *sides, "}"]


def _listed_pieces(term):
    """A word with all its elements in brackets; a pair has the brackets alone."""
    found = ["(" if term[0] == "pair" else term[0] + "("]
    for index, role in enumerate(SHAPES[term[0]], 1):
        if index > 1:
            found.append(", ")
        found.append(("term" if role == "term" else "kind", term[index]))
    return found + [")"]


def _negated(term):
    """What stands behind "-": a figure there would make a number of both."""
    first = term
    while first[0] == "call":
        first = first[1]
    if first[0] == "number" and first[1] >= 0:
        return ["(", ("term", term), ")"]
    return _around("term", term, _NEGATED)
