"""Reckons the meanings of kinded terms, and counts the calls.

What is still to be reckoned stands in a list of its own and not in calls within one another, so
that calls of functions within calls may go as deep as a program takes them.
"""

from changewise.groups import count_in, plus_in, support_in, times_in, total_in, zero_in
from changewise.shapes import inner_terms


class Function:
    """The meaning of a fn: its body, a kinded term, and what the names about it mean."""

    def __init__(self, name, body, scope):
        self.name = name
        self.body = body
        self.scope = scope


class Reckoner:
    """Reckons meanings; taken is how often the value of a function was taken for them."""

    def __init__(self):
        self.taken = 0
        self._due = []
        self._made = []

    def meaning(self, term, scope):
        """What a kinded term means, the names meaning what a dict tells."""
        self._due.append(("reckon", term, scope))
        return self._done()

    def told(self, function, values):
        """What the meaning of a function tells of values, one behind the other."""
        found = function
        for value in values:
            self._enter(found, value)
            found = self._done()
        return found

    def _done(self):
        """What is made when nothing is due any more."""
        while self._due:
            self._do(self._due.pop())
        return self._made.pop()

    def _do(self, deed):
        if deed[0] == "reckon":
            self._reckon(deed[1], deed[2])
        elif deed[0] == "finish":
            self._finish(deed[1])
        elif deed[0] == "let":
            self._bind(deed[1], self._made.pop(), deed[2], deed[3])
        elif deed[0] == "case":
            self._take_side(deed[1], deed[2])
        elif deed[0] == "total":
            self._total_on(deed[1], deed[2], deed[3], deed[4], deed[5])
        else:
            deed[1].append(times_in(deed[2], deed[3], self._made.pop()))

    def _reckon(self, term, scope):
        word = term[0]
        if word == "name":
            self._made.append(scope[term[1]])
        elif word == "fn":
            self._made.append(Function(term[1], term[3], scope))
        elif word == "let":
            self._due.append(("let", term[1], term[3], scope))
            self._due.append(("reckon", term[2], scope))
        elif word == "case":
            self._due.append(("case", term, scope))
            self._due.append(("reckon", term[1], scope))
        else:
            self._due.append(("finish", term))
            self._due.extend([("reckon", part, scope) for _, part, _ in inner_terms(term)[::-1]])

    def _finish(self, term):
        """Do what a term tells of its parts, which have been reckoned."""
        start = len(self._made) - len(inner_terms(term))
        parts = self._made[start:]
        del self._made[start:]
        if term[0] == "call":
            self._enter(parts[0], parts[1])
        elif term[0] == "total":
            self._due.append(("total", parts[0], parts[1], 0, [], term[-1]))
        else:
            deed = _DEEDS[term[0]]
            self._made.append(deed(term, parts))

    def _enter(self, function, value):
        self.taken += 1
        self._bind(function.name, value, function.body, function.scope)

    def _bind(self, name, value, term, scope):
        self._due.append(("reckon", term, {**scope, name: value}))

    def _take_side(self, term, scope):
        side = self._made.pop()
        at = 2 if side[0] == "left" else 4
        self._bind(term[at], side[1], term[at + 1], scope)

    def _total_on(self, function, bag, at, answers, kind):
        """Go on with a total at one row of its bag, with what the rows ahead answered."""
        if at == len(bag):
            self._made.append(total_in(kind, answers))
            return
        value, many = bag[at]
        self._due.append(("total", function, bag, at + 1, answers, kind))
        self._due.append(("answer", answers, kind, many))
        self._enter(function, value)


def _unit(term, parts):
    return ()


def _number(term, parts):
    return term[1]


def _plus(term, parts):
    return plus_in(term[-1], parts[0], parts[1])


def _minus(term, parts):
    return times_in(term[-1], -1, parts[0])


def _times(term, parts):
    return parts[0] * parts[1]


def _zero(term, parts):
    return zero_in(term[-1])


def _pair(term, parts):
    return ("pair", parts[0], parts[1])


def _first(term, parts):
    return parts[0][1]


def _second(term, parts):
    return parts[0][2]


def _side(term, parts):
    return (term[0], parts[0])


def _is(term, parts):
    if term[1] == "<":
        so = parts[0] < parts[1]
    elif term[1] == "<=":
        so = parts[0] <= parts[1]
    else:
        so = parts[0] == parts[1]
    return ("left" if so else "right", ())


def _one(term, parts):
    return ((parts[0], 1),)


def _count(term, parts):
    return count_in(parts[0], parts[1])


def _support(term, parts):
    return support_in(parts[0])


_DEEDS = {
    "unit": _unit, "number": _number, "plus": _plus, "minus": _minus, "times": _times, "zero": _zero, "pair": _pair,
    "first": _first, "second": _second, "left": _side, "right": _side, "is": _is, "one": _one, "count": _count,
    "support": _support,
}
