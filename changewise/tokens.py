"""Cuts a text into tokens, up to its end or to the first bad sign."""

from changewise.names import LONGEST_MARK, LONGEST_NAME, MARK, WORDS, is_figure, is_letter

_DOUBLE_SIGNS = ("->", "<=", "==")
_SIGNS = "(){},.:;|+*-<="
_MOST_FIGURES = 400


def tokens_of(text):
    """The tokens (SORT, TEXT, INDEX) of a text.

    SORT is a word or sign itself, NAME, MARKED or NUMBER, of the last one END or BAD: what is
    behind a bad sign, and what it breaks off, is told nowhere, since no text goes on with it.
    """
    found = []
    at = _token_start(text, 0)
    while at < len(text):
        sort, end = _token_at(text, at)
        if sort == "BAD":
            return found + [("BAD", "", end)]
        found.append((sort, text[at:end], at))
        at = _token_start(text, end)
    return found + [("END", "", at)]


def line_and_column(text, index):
    """Where an index of a text is, both from 1 on."""
    ahead = text[:index]
    return ahead.count("\n") + 1, index - ahead.rfind("\n")


def _token_start(text, at):
    """The index of the first sign, from one on, that is not between tokens."""
    while at < len(text) and text[at] in " \n#":
        if text[at] == "#":
            while at < len(text) and text[at] != "\n":
                at += 1
        else:
            at += 1
    return at


def _token_at(text, at):
    """The token's SORT and its end, or BAD and the index of the bad sign."""
    if is_letter(text[at]):
        return _name_at(text, at)
    if is_figure(text[at]):
        return _number_at(text, at)
    if text[at] == "-" and _is_figure_at(text, at + 1):
        if text[at + 1] == "0":
            return "BAD", at + 1
        return _number_at(text, at + 1)
    if text[at:at + 2] in _DOUBLE_SIGNS:
        return text[at:at + 2], at + 2
    if text[at] in _SIGNS:
        return text[at], at + 1
    return "BAD", at


def _name_at(text, at):
    end = at
    while _is_letter_at(text, end) or _is_figure_at(text, end):
        end += 1
    if end - at > LONGEST_NAME:
        return "BAD", at + LONGEST_NAME
    # A mark behind a word is no part of it; it begins no token either, so it is bad by itself.
    if text[at:end] in WORDS:
        return text[at:end], end
    if text[end:end + 1] == MARK:
        return _mark_at(text, end)
    return "NAME", end


def _mark_at(text, at):
    end = _figures_end(text, at + 1)
    if end - at - 1 > LONGEST_MARK:
        return "BAD", at + 1 + LONGEST_MARK
    if text[end:end + 1] == MARK:
        return "BAD", end
    return "MARKED", end


def _number_at(text, at):
    """The token of which the first figure is at an index."""
    end = _figures_end(text, at)
    if text[at] == "0" and end > at + 1:
        return "BAD", at + 1
    if end - at > _MOST_FIGURES:
        return "BAD", at + _MOST_FIGURES
    if _is_letter_at(text, end):
        return "BAD", end
    return "NUMBER", end


def _figures_end(text, at):
    while _is_figure_at(text, at):
        at += 1
    return at


def _is_letter_at(text, at):
    return at < len(text) and is_letter(text[at])


def _is_figure_at(text, at):
    return at < len(text) and is_figure(text[at])
