"""Reckons the meanings of parts of terms by their codes, and counts the calls.

What is still to be gone on with stands in a list of its own and not in calls within one another, so
that calls of functions within calls may go as deep as a program takes them.
"""

from changewise.coding import code_of
from changewise.groups import times_in, total_in


class Function:
    """The meaning of a fn: the Part that is its body, and what the names about it mean."""

    def __init__(self, name, body, scope):
        self.name = name
        self.body = body
        self.scope = scope


class Reckoner:
    """Reckons meanings; taken is how often the value of a function was taken for them."""

    def __init__(self):
        self.taken = 0

    def meaning(self, part, scope):
        """What a part means, the names meaning what a dict tells."""
        return self._made_by(code_of(part), scope)

    def told(self, function, values):
        """What the meaning of a function tells of values, one behind the other."""
        found = function
        for value in values:
            found = self._made_by([("take", found, value)], {})
        return found

    def _made_by(self, code, scope):
        """What a code makes, the names meaning what a dict tells."""
        at, made, behind = 0, [], []
        while at < len(code) or behind:
            if at == len(code):
                code, at, scope = behind.pop()
                continue
            deed = code[at]
            word = deed[0]
            at += 1
            if word == "name":
                made.append(scope[deed[1]])
            elif word == "two":
                rule, two = deed[1], made.pop()
                made[-1] = rule(deed[2], made[-1], two)
            elif word == "one":
                rule = deed[1]
                made[-1] = rule(deed[2], made[-1])
            elif word == "made":
                made.append(deed[1])
            elif word == "fn":
                made.append(Function(deed[1], deed[2], scope))
            elif word == "sum":
                _add_up(made, deed[1], deed[2])
            else:
                behind.append((code, at, scope))
                code, scope = self._entered(deed, made, scope)
                at = 0
        return made.pop()

    def _entered(self, deed, made, scope):
        """The code to go on with, and what its names mean."""
        if deed[0] == "let":
            return code_of(deed[2]), {**scope, deed[1]: made.pop()}
        if deed[0] == "case":
            side = made.pop()
            at = 1 if side[0] == "left" else 3
            return code_of(deed[at + 1]), {**scope, deed[at]: side[1]}
        if deed[0] == "take":
            return self._taken(deed[1], deed[2])
        value = made.pop()
        function = made.pop()
        if deed[0] == "call":
            return self._taken(function, value)
        # A total: the function's value is taken for all that is in the bag, and these are added up.
        return [("take", function, held) for held, _ in value] + [("sum", deed[1], value)], scope

    def _taken(self, function, value):
        self.taken += 1
        return code_of(function.body), {**function.scope, function.name: value}


def _add_up(made, kind, bag):
    """Put the sum of what was made of each thing in a bag, so often as it is there, in the place of these."""
    start = len(made) - len(bag)
    answers = [times_in(kind, row[1], answer) for row, answer in zip(bag, made[start:])]
    del made[start:]
    made.append(total_in(kind, answers))
