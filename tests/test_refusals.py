"""[A7] for drawn texts: each is refused at the first token, or bad sign, with which no text goes on."""

import re
import unittest

from changewise.errors import InvalidSheet, InvalidText
from changewise.text import (
    read_kind, read_sheet, read_term, read_value, show_kind, show_sheet, show_term, show_value,
)
from tests.drawing import Drawer
from tests.grammar import WORDS, refused_at

TOKEN = re.compile(r"[a-z][a-z0-9]{0,7}(?:'[0-9]{0,8})?|-?[0-9]+|->|<=|==|[(){},.:;|+*<=-]")
SIGNS = "-> <= == ( ) { } , . : ; | + * - < =".split()
OTHERS = SIGNS + sorted(WORDS) + ["x", "y'", "abcdefgh'12", "0", "7", "-12"]
# Texts that are broken off, each with where its bad sign stands in it.
BAD = {"X": 0, "'": 0, "abcdefghi": 8, "x''": 2, "x'123456789": 10, "12a": 2, "01": 1, "-0": 1, "!": 0, "\t": 0,
       "x'1'": 3, "-5b": 2, "00": 1, "\u00e9": 0, ">": 0}


def place_of(text, index):
    lines = text[:index].split("\n")
    return len(lines), len(lines[-1]) + 1


class Row:
    """A row of tokens, with what stands between them."""

    def __init__(self, drawer, tokens):
        self.tokens, self.starts, self.text = tokens, [], self.gap(drawer, 30)
        for token in tokens:
            self.starts.append(len(self.text))
            self.text += token + (self.gap(drawer, 100) or " ")
        self.starts.append(len(self.text))

    def gap(self, drawer, percent):
        gap = ""
        while drawer.chance(percent):
            gap += drawer.one_of(" ", " ", "  ", "\n", "# x = (1\n", " #\n", "#'!\u00e9\t12a\n")
            percent = 20
        return gap

    def refused(self, symbol):
        """Where the text is refused, None if it is not."""
        bad = [at for at, token in enumerate(self.tokens) if token in BAD]
        ahead = self.tokens[:bad[0]] if bad else self.tokens
        index = refused_at(symbol, ahead, lambda tokens: read_kind(" ".join(tokens)))
        if index is None and not bad:
            return None
        if bad and index in (None, len(ahead)):
            return place_of(self.text, self.starts[bad[0]] + BAD[self.tokens[bad[0]]])
        return place_of(self.text, self.starts[index])


def changed(drawer, tokens):
    """The tokens with one or two left out, told twice, put in or put in the place of another one."""
    tokens = list(tokens)
    for _ in range(drawer.one_of(1, 1, 2)):
        at = drawer.random.randrange(len(tokens) + 1)
        other = drawer.one_of(*BAD) if drawer.chance(12) else drawer.one_of(*OTHERS)
        deed = drawer.random.randrange(5)
        if deed == 0:
            tokens[at:at + 1] = []
        elif deed == 1:
            tokens[at:at] = tokens[at:at + 1]
        elif deed == 2:
            tokens[at:at] = [other]
        elif deed == 3:
            tokens[at:at + 1] = [other]
        else:
            tokens = tokens[:at]
    return tokens


class DrawnRefusalsTest(unittest.TestCase):

    def follow(self, seed, symbol, text, read):
        """The text, cut and changed at random, is refused where the forms tell; unchanged nowhere."""
        drawer = Drawer(seed)
        tokens = TOKEN.findall(text)
        self.assertEqual("".join(tokens), re.sub(r"\s", "", text))
        self.check(Row(drawer, tokens), symbol, read, None)
        for _ in range(12):
            row = Row(drawer, changed(drawer, tokens))
            self.check(row, symbol, read, row.refused(symbol))

    def check(self, row, symbol, read, expected):
        with self.subTest(row.text):
            try:
                read(row.text)
                found = None
            except InvalidText as error:
                found = (error.line, error.column)
            except InvalidSheet:
                # The text is one of cells; that they are no sheet is another matter.
                found = None
            self.assertEqual(found, expected)

    def test_kinds(self):
        for seed in range(150):
            self.follow(seed, "KIND", show_kind(Drawer(seed).kind(5)), read_kind)

    def test_terms(self):
        for seed in range(150):
            self.follow(seed, "TERM", show_term(Drawer(seed).any_term(5)), read_term)

    def test_values(self):
        for seed in range(150):
            drawer = Drawer(seed)
            kind = drawer.data_kind(4)
            text = show_value(kind, drawer.value(kind))
            self.follow(seed, kind, text, lambda text, kind=kind: read_value(kind, text))

    def test_sheets(self):
        for seed in range(50):
            drawer = Drawer(seed)
            self.follow(seed, "SHEET", show_sheet(drawer.sheet(2, 2, 3)), read_sheet)

    def test_every_end_ahead_of_the_end(self):
        for seed in range(60):
            text = show_term(Drawer(seed).any_term(4))
            tokens = TOKEN.findall(text)
            for many in range(len(tokens)):
                row = Row(Drawer(seed), tokens[:many])
                self.check(row, "TERM", read_term, row.refused("TERM"))


if __name__ == "__main__":
    unittest.main()
