"""Values of any kind, functions too, and changes that fit them, drawn; and whether such are alike, by samples.

Functions are Python's, as in tests/oracle.py: what closed terms mean there.
"""

from tests import oracle

FUNCTION_DEPTH = 3


class Sampler:

    def __init__(self, drawer):
        self.drawer = drawer

    def value(self, kind):
        """A value of any kind."""
        if oracle.is_data(kind):
            return self.drawer.value(kind)
        if kind[0] == "pair":
            return ("pair", self.value(kind[1]), self.value(kind[2]))
        if kind[0] == "either":
            return self.drawer.one_of(("left", self.value(kind[1])), ("right", self.value(kind[2])))
        return oracle.meaning({}, {}, self.drawer.term((), kind, FUNCTION_DEPTH), oracle.Calls())

    def fitting(self, kind, value):
        """A change that fits; of a function the difference to another one, or the still change."""
        if oracle.is_data(kind):
            return self.drawer.fitting(kind, value)
        if kind[0] == "pair":
            return ("pair", self.fitting(kind[1], value[1]), self.fitting(kind[2], value[2]))
        if kind[0] == "fun":
            return oracle.less(kind, value if self.drawer.chance(15) else self.value(kind), value)
        if self.drawer.chance(40):
            return ("right", self.value(kind))
        side = kind[1] if value[0] == "left" else kind[2]
        return ("left", (value[0], self.fitting(side, value[1])))

    def alike(self, kind, one, two, many=3):
        """Whether two values are alike, as far as some arguments tell."""
        if oracle.is_data(kind):
            return one == two
        if kind[0] == "pair":
            return all(self.alike(kind[at], one[at], two[at], many) for at in (1, 2))
        if kind[0] == "either":
            return one[0] == two[0] and self.alike(kind[1 if one[0] == "left" else 2], one[1], two[1], many)
        arguments = [self.value(kind[1]) for _ in range(many)]
        return all(self.alike(kind[2], one(told), two(told), many - 1) for told in arguments)

    def fits(self, kind, value, change, many=3):
        """Whether a change fits, as far as some arguments, and changes of these, tell."""
        if oracle.is_data(kind):
            return oracle.is_value(oracle.changes(kind), change) and oracle.fits(kind, value, change)
        if kind[0] == "pair":
            return all(self.fits(kind[at], value[at], change[at], many) for at in (1, 2))
        if kind[0] == "either":
            if change[0] == "right":
                return True
            side = kind[1] if value[0] == "left" else kind[2]
            return change[1][0] == value[0] and self.fits(side, value[1], change[1][1], many)
        for _ in range(many):
            told = self.value(kind[1])
            moved = self.fitting(kind[1], told)
            answer, answers_change = value(told), change(told)(moved)
            behind = oracle.led(kind, value, change)(oracle.led(kind[1], told, moved))
            if not self.fits(kind[2], answer, answers_change, many - 1):
                return False
            if not self.alike(kind[2], oracle.led(kind[2], answer, answers_change), behind, many - 1):
                return False
        return True
