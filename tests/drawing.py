"""Draws kinds, values, terms, sheets and edits by a seeded random source."""

import random

from changewise.kinds import is_group_kind

UNIT, NUM = ("unit",), ("num",)
TRUTH = ("either", UNIT, UNIT)
SIGNS = ("<", "<=", "==")
NUMBERS = (0, 0, 1, 1, 2, 3, -1, -2, 5)


class Drawer:

    def __init__(self, seed):
        self.random = random.Random(seed)

    def one_of(self, *things):
        return self.random.choice(things)

    def chance(self, percent):
        return self.random.randrange(100) < percent

    # Kinds.

    def kind(self, depth, words=("unit", "num", "pair", "either", "bag", "fun")):
        word = self.random.choice(words)
        if depth <= 1 or word in ("unit", "num"):
            return self.one_of(*[(word,) for word in ("unit", "num") if word in words])
        if word == "bag":
            return ("bag", self.plain_kind(depth - 1))
        return (word, self.kind(depth - 1, words), self.kind(depth - 1, words))

    def plain_kind(self, depth):
        return self.kind(depth, ("unit", "num", "num", "pair", "either"))

    def data_kind(self, depth):
        return self.kind(depth, ("unit", "num", "num", "pair", "either", "bag", "bag"))

    def group_kind(self, depth):
        if depth <= 1 or self.chance(40):
            return NUM
        if self.chance(60):
            return ("bag", self.plain_kind(depth - 1))
        return ("pair", self.group_kind(depth - 1), self.group_kind(depth - 1))

    # Values of data kinds, and changes that fit them.

    def number(self):
        return self.random.choice(NUMBERS)

    def value(self, kind):
        if kind == UNIT:
            return ()
        if kind == NUM:
            return self.number()
        if kind[0] == "pair":
            return ("pair", self.value(kind[1]), self.value(kind[2]))
        if kind[0] == "either":
            return self.one_of(("left", self.value(kind[1])), ("right", self.value(kind[2])))
        rows = {self.value(kind[1]): self.one_of(1, 1, 2, 3, -1, -2) for _ in range(self.random.randrange(4))}
        return tuple(sorted(rows.items()))

    def fitting(self, kind, value):
        """A change that fits, sometimes one that changes nothing, told in any way."""
        if kind == UNIT:
            return ()
        if kind == NUM:
            return self.number()
        if kind[0] == "pair":
            return ("pair", self.fitting(kind[1], value[1]), self.fitting(kind[2], value[2]))
        if kind[0] == "bag":
            return self.value(kind)
        if self.chance(40):
            return ("right", value if self.chance(30) else self.value(kind))
        side = kind[1] if value[0] == "left" else kind[2]
        return ("left", (value[0], self.fitting(side, value[1])))

    # Terms of any sort, for texts: most have no kind.

    def any_term(self, depth, marks=True):
        names = ("x", "y", "f1", "abcdefgh") + (("x'", "y'12", "abcdefgh'12345678") if marks else ())
        name, inner = self.random.choice(names), lambda: self.any_term(depth - 1, marks)
        if depth <= 1:
            return self.one_of(("name", name), ("number", self.number()), ("unit",), ("zero", self.group_kind(3)))
        word = self.one_of("name", "number", "fn", "call", "call", "let", "plus", "plus", "times", "times", "minus",
                           "minus", "pair", "first", "second", "left", "right", "case", "is", "is", "one", "total",
                           "count", "support")
        if word in ("name", "number"):
            return self.any_term(1, marks)
        if word == "fn":
            return ("fn", name, self.kind(4), inner())
        if word == "let":
            return ("let", name, inner(), inner())
        if word == "left":
            return ("left", inner(), self.kind(4))
        if word == "right":
            return ("right", self.kind(4), inner())
        if word == "case":
            return ("case", inner(), name, inner(), self.random.choice(names), inner())
        if word == "is":
            return ("is", self.random.choice(SIGNS), inner(), inner())
        if word in ("minus", "first", "second", "one", "support"):
            return (word, inner())
        return (word, inner(), inner())

    # Terms of a kind in a context, a tuple of pairs (NAME, KIND).

    def term(self, context, kind, depth):
        """A term of the kind, up to about so deep; names are bound within one another, some hiding others."""
        known = {name: told for name, told in context}
        fit = [name for name, told in known.items() if told == kind]
        if fit and self.chance(40 if depth > 1 else 80):
            return ("name", self.random.choice(fit))
        if depth > 1 and self.chance(60):
            return self.taken_apart(context, kind, depth)
        return self.made(context, kind, depth)

    def made(self, context, kind, depth):
        """A term that makes a value of the kind from its parts."""
        inner = depth - 1
        if kind[0] == "fun":
            name = self.one_of("x", "y", "z")
            return ("fn", name, kind[1], self.term(context + ((name, kind[1]),), kind[2], inner))
        if kind[0] == "pair" and not (is_group_kind(kind) and self.chance(30)):
            return ("pair", self.term(context, kind[1], inner), self.term(context, kind[2], inner))
        if kind == TRUTH and depth > 1 and self.chance(60):
            return ("is", self.random.choice(SIGNS), self.term(context, NUM, inner), self.term(context, NUM, inner))
        if kind[0] == "either":
            if self.chance(50):
                return ("left", self.term(context, kind[1], inner), kind[2])
            return ("right", kind[1], self.term(context, kind[2], inner))
        if kind == UNIT:
            return ("unit",)
        if depth > 1 and self.chance(70):
            return self.reckoned(context, kind, inner)
        return ("number", self.number()) if kind == NUM else ("zero", kind)

    def reckoned(self, context, kind, depth):
        """A term of a group kind."""
        if kind[0] == "bag" and self.chance(40):
            if self.chance(30):
                return ("support", self.term(context, kind, depth))
            return ("one", self.term(context, kind[1], depth))
        if kind == NUM and self.chance(40):
            if self.chance(30):
                plain = self.plain_kind(2)
                return ("count", self.term(context, ("bag", plain), depth), self.term(context, plain, depth))
            return ("times", self.term(context, NUM, depth), self.term(context, NUM, depth))
        if self.chance(35):
            plain = self.plain_kind(2)
            asked = self.term(context, ("fun", plain, kind), depth)
            return ("total", asked, self.term(context, ("bag", plain), depth))
        if self.chance(20):
            return ("minus", self.term(context, kind, depth))
        return ("plus", self.term(context, kind, depth), self.term(context, kind, depth))

    def taken_apart(self, context, kind, depth):
        """A term that gets a value of the kind out of another one."""
        inner, other = depth - 1, self.kind(self.one_of(1, 2, 2, 3))
        word = self.one_of("call", "call", "let", "let", "case", "case", "first", "second")
        name = self.one_of("x", "y", "z")
        if word == "call":
            return ("call", self.term(context, ("fun", other, kind), inner), self.term(context, other, inner))
        if word == "let":
            return ("let", name, self.term(context, other, inner),
                    self.term(context + ((name, other),), kind, inner))
        if word == "first":
            return ("first", self.term(context, ("pair", kind, other), inner))
        if word == "second":
            return ("second", self.term(context, ("pair", other, kind), inner))
        second, behind = self.kind(2), self.one_of("x", "y", "z")
        told = self.one_of(("either", other, second), TRUTH)
        return ("case", self.term(context, told, inner),
                name, self.term(context + ((name, told[1]),), kind, inner),
                behind, self.term(context + ((behind, told[2]),), kind, inner))

    # Sheets and edits.

    def sheet(self, inputs, cells, depth=4):
        found, context = [], ()
        for at in range(inputs):
            kind = self.data_kind(3)
            found.append(("input", f"i{at}", kind, self.value(kind)))
            context += ((f"i{at}", kind),)
        for at in range(cells):
            kind = self.kind(3) if self.chance(60) else self.group_kind(3)
            if context and self.chance(25):
                # A function of what is there already is called more often.
                kind = ("fun", self.one_of(NUM, self.random.choice(context)[1]), self.one_of(NUM, self.data_kind(2)))
            found.append(("cell", f"c{at}", self.term(context, kind, depth)))
            context += ((f"c{at}", kind),)
        return tuple(found)

    def edit(self, sheet):
        inputs = [cell for cell in sheet if cell[0] == "input" and self.chance(60)]
        return tuple((cell[1], self.fitting(cell[2], cell[3])) for cell in inputs)
