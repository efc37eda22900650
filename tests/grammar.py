"""The forms of [A7] once more, as plain alternatives, all of which are followed at once. (What begins
alike stands together, so that there are not too many to follow.)

Tells at which token a text is refused: the first one behind which no alternative is left.
"""

import re

WORDS = set(
    "fn let in case unit num bag zero first second left right one total count support input cell".split())

RULES = {
    "KIND": ["EITHER ARROW"],
    "ARROW": ["", "-> KIND"],
    "EITHER": ["SINGLE EITHERS"],
    "EITHERS": ["", "BAR SINGLE EITHERS"],
    "SINGLE": ["unit", "num", "bag PLAINSINGLE", "( KIND KINDEND"],
    "KINDEND": [")", ", KIND )"],
    "PLAIN": ["PLAINSINGLE PLAINS"],
    "PLAINS": ["", "BAR PLAINSINGLE PLAINS"],
    "PLAINSINGLE": ["unit", "num", "( PLAIN PLAINEND"],
    "PLAINEND": [")", ", PLAIN )"],
    "DATA": ["DATASINGLE DATAS"],
    "DATAS": ["", "BAR DATASINGLE DATAS"],
    "DATASINGLE": ["unit", "num", "bag PLAINSINGLE", "( DATA DATAEND"],
    "DATAEND": [")", ", DATA )"],
    "GROUP": ["num", "bag PLAINSINGLE", "( GROUP GROUPEND"],
    "GROUPEND": [")", ", GROUP )"],
    "TERM": ["fn ANYNAME : KIND . TERM", "let ANYNAME = TERM in TERM", "SUM IS"],
    "IS": ["", "< SUM", "<= SUM", "== SUM"],
    "ANYNAME": ["NAME", "MARKED"],
    "SUM": ["PRODUCT PRODUCTS"],
    "PRODUCTS": ["", "+ PRODUCT PRODUCTS"],
    "PRODUCT": ["SIGNED SIGNEDS"],
    "SIGNEDS": ["", "* SIGNED SIGNEDS"],
    "SIGNED": ["- SIGNED", "ATOM CALLS"],
    "CALLS": ["", "( TERM ) CALLS"],
    "ATOM": [
        "NAME", "MARKED", "NUMBER", "( INSIDE", "zero ( GROUP )", "first ( TERM )",
        "second ( TERM )", "one ( TERM )", "support ( TERM )", "total ( TERM , TERM )", "count ( TERM , TERM )",
        "left ( TERM , KIND )", "right ( KIND , TERM )", "case TERM { ANYNAME . TERM ; ANYNAME . TERM }",
    ],
    "INSIDE": [")", "TERM TERMEND"],
    "TERMEND": [")", ", TERM )"],
    "SHEET": ["", "input NAME : DATA = VALUE ; SHEET", "cell NAME = TERM ; SHEET"],
    "BAR": ["|"],
}


def sort_of(token):
    """A sign or word itself, or what sort of name or number it is."""
    if token in WORDS or not re.fullmatch(r"[a-z0-9'-]+", token) or token == "-":
        return token
    if re.fullmatch(r"[a-z][a-z0-9]{0,7}", token):
        return "NAME"
    if re.fullmatch(r"[a-z][a-z0-9]{0,7}'[0-9]{0,8}", token):
        return "MARKED"
    if re.fullmatch(r"0|-?[1-9][0-9]{0,399}", token):
        return "NUMBER"
    return "none"


def alternatives(symbol):
    """The rows of symbols in the place of one; a tuple is the form of values of a kind."""
    if isinstance(symbol, str):
        return [row.split() for row in RULES[symbol]]
    word, *parts = symbol
    if word == "unit":
        return [["(", ")"]]
    if word == "num":
        return [["NUMBER"]]
    if word == "pair":
        return [["(", parts[0], ",", parts[1], ")"]]
    if word == "either":
        return [["left", "(", parts[0], ")"], ["right", "(", parts[1], ")"]]
    if word == "bag":
        return [["{", "}"], ["{", parts[0], ":", "NUMBER", ("rows", parts[0])]]
    return [["}"], [",", parts[0], ":", "NUMBER", ("rows", parts[0])]]


def opened(stacks):
    """All rows that begin with a token, behind the stacks, each a pair (symbol, rest) or ()."""
    found, todo = set(), list(stacks)
    while todo:
        stack = todo.pop()
        if stack and (isinstance(stack[0], tuple) or stack[0] in RULES):
            for row in alternatives(stack[0]):
                rest = stack[1]
                for symbol in row[::-1]:
                    rest = (symbol, rest)
                todo.append(rest)
        else:
            found.add(stack)
    return found


def refused_at(symbol, tokens, kind_of_tokens=None):
    """The index of the token at which tokens are refused, how many there are if they end too early, or None."""
    stacks, told = opened([(symbol, ())]), 0
    for index, token in enumerate(tokens):
        stacks = {stack[1] for stack in stacks if stack and stack[0] == sort_of(token)}
        if not stacks:
            return index
        if token == ":" and {stack[0] for stack in stacks if stack} == {"DATA"}:
            told = index + 1
        if any(stack and stack[0] == "VALUE" for stack in stacks):
            kind = kind_of_tokens(tokens[told:index])
            stacks = {(kind, stack[1]) for stack in stacks}
        stacks = opened(stacks)
    return None if () in stacks else len(tokens)
