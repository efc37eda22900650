"""What terms and sheets mean, told once more in another way than the package does: by recursion, with
Python's own functions for functions and dicts for bags. Tests compare the two."""

NUM, UNIT = ("num",), ("unit",)
TRUTH = ("either", UNIT, UNIT)


def is_group(kind):
    return kind[0] in ("num", "bag") or kind[0] == "pair" and all(is_group(part) for part in kind[1:])


def is_data(kind):
    return kind[0] != "fun" and all(is_data(part) for part in kind[1:])


def is_plain(kind):
    return kind[0] not in ("fun", "bag") and all(is_plain(part) for part in kind[1:])


class NoKind(Exception):
    """Has the path to what is wrong first."""


def kind_of(kinds, term, path=()):
    """The kind of a term in a dict of kinds."""
    def at(index, **bound):
        return kind_of({**kinds, **bound}, term[index], path + (index,))

    def need(holds, *index):
        if not holds:
            raise NoKind(path + index)

    word = term[0]
    if word == "name":
        need(term[1] in kinds)
        return kinds[term[1]]
    if word == "fn":
        return ("fun", term[2], at(3, **{term[1]: term[2]}))
    if word == "let":
        return at(3, **{term[1]: at(2)})
    if word in ("unit", "number"):
        return UNIT if word == "unit" else NUM
    if word == "zero":
        return term[1]
    if word in ("left", "right"):
        return ("either", at(1), term[2]) if word == "left" else ("either", term[1], at(2))
    if word == "case":
        told = at(1)
        need(told[0] == "either", 1)
        one, two = at(3, **{term[2]: told[1]}), at(5, **{term[4]: told[2]})
        need(one == two, 5)
        return one
    if word == "is":
        one, two = at(2), at(3)
        need(one == NUM, 2)
        need(two == NUM, 3)
        return TRUTH
    one = at(1)
    two = at(2) if len(term) > 2 else None
    if word == "call":
        need(one[0] == "fun", 1)
        need(one[1] == two, 2)
        return one[2]
    if word in ("plus", "minus"):
        need(is_group(one), 1)
        need(word == "minus" or one == two, 2)
        return one
    if word == "times":
        need(one == NUM, 1)
        need(two == NUM, 2)
        return NUM
    if word == "pair":
        return ("pair", one, two)
    if word in ("first", "second"):
        need(one[0] == "pair", 1)
        return one[1 if word == "first" else 2]
    if word == "one":
        need(is_plain(one), 1)
        return ("bag", one)
    if word == "total":
        need(one[0] == "fun" and is_plain(one[1]) and is_group(one[2]), 1)
        need(two == ("bag", one[1]), 2)
        return one[2]
    need(one[0] == "bag", 1)
    if word == "support":
        return one
    need(two == one[1], 2)
    return NUM


def zero(kind):
    if kind == NUM:
        return 0
    return () if kind[0] == "bag" else ("pair", zero(kind[1]), zero(kind[2]))


def many(kind, number, value):
    if kind == NUM:
        return number * value
    if kind[0] == "bag":
        return tuple((held, number * times) for held, times in value if number)
    return ("pair", many(kind[1], number, value[1]), many(kind[2], number, value[2]))


def plus(kind, one, two):
    if kind == NUM:
        return one + two
    if kind[0] == "pair":
        return ("pair", plus(kind[1], one[1], two[1]), plus(kind[2], one[2], two[2]))
    found = dict(one)
    for value, times in two:
        found[value] = found.get(value, 0) + times
    return tuple(sorted((value, times) for value, times in found.items() if times))


def led(kind, value, change):
    """A value of a data kind led by a change."""
    if kind[0] == "either":
        if change[0] == "right":
            return change[1]
        side = kind[1] if value[0] == "left" else kind[2]
        return (value[0], led(side, value[1], change[1][1])) if change[1][0] == value[0] else value
    if kind[0] == "pair":
        return ("pair", led(kind[1], value[1], change[1]), led(kind[2], value[2], change[2]))
    return () if kind == UNIT else plus(kind, value, change)


def less(kind, new, old):
    """The difference of two values of a data kind."""
    if kind[0] == "either":
        if new[0] != old[0]:
            return ("right", new)
        return ("left", (new[0], less(kind[1 if new[0] == "left" else 2], new[1], old[1])))
    if kind[0] == "pair":
        return ("pair", less(kind[1], new[1], old[1]), less(kind[2], new[2], old[2]))
    return () if kind == UNIT else plus(kind, new, many(kind, -1, old))


class Calls:

    def __init__(self):
        self.made = 0

    def function(self, call):
        def counted(value):
            self.made += 1
            return call(value)
        return counted


def meaning(kinds, means, term, calls):
    """What a term means; functions are Python's, each call of which is counted."""
    def at(index):
        return meaning(kinds, means, term[index], calls)

    def bound(name, kind, value, body):
        return meaning({**kinds, name: kind}, {**means, name: value}, body, calls)

    word = term[0]
    if word == "name":
        return means[term[1]]
    if word == "fn":
        return calls.function(lambda value: bound(term[1], term[2], value, term[3]))
    if word == "let":
        return bound(term[1], kind_of(kinds, term[2]), at(2), term[3])
    if word == "unit":
        return ()
    if word == "number":
        return term[1]
    if word == "zero":
        return zero(term[1])
    if word == "left":
        return ("left", at(1))
    if word == "right":
        return ("right", at(2))
    if word == "case":
        sides, told = kind_of(kinds, term[1]), at(1)
        if told[0] == "left":
            return bound(term[2], sides[1], told[1], term[3])
        return bound(term[4], sides[2], told[1], term[5])
    if word == "is":
        one, two = at(2), at(3)
        so = {"<": one < two, "<=": one <= two, "==": one == two}[term[1]]
        return ("left", ()) if so else ("right", ())
    one = at(1)
    two = at(2) if len(term) > 2 else None
    if word == "call":
        return one(two)
    if word == "plus":
        return plus(kind_of(kinds, term), one, two)
    if word == "minus":
        return many(kind_of(kinds, term), -1, one)
    if word == "times":
        return one * two
    if word == "pair":
        return ("pair", one, two)
    if word in ("first", "second"):
        return one[1 if word == "first" else 2]
    if word == "one":
        return ((one, 1),)
    if word == "total":
        kind = kind_of(kinds, term)
        found = zero(kind)
        for value, times in two:
            found = plus(kind, found, many(kind, times, one(value)))
        return found
    if word == "count":
        return dict(one).get(two, 0)
    return tuple((value, 1) for value, times in one if times > 0)


def names_in(term, bound=()):
    """The free names of a term."""
    if term[0] == "name":
        return set() if term[1] in bound else {term[1]}
    if term[0] == "fn":
        return names_in(term[3], bound + (term[1],))
    if term[0] == "let":
        return names_in(term[2], bound) | names_in(term[3], bound + (term[1],))
    if term[0] == "case":
        sides = names_in(term[3], bound + (term[2],)) | names_in(term[5], bound + (term[4],))
        return names_in(term[1], bound) | sides
    if term[0] in ("zero", "number", "unit"):
        return set()
    places = {"left": (1,), "right": (2,), "is": (2, 3)}.get(term[0], range(1, len(term)))
    return set().union(*[names_in(term[index], bound) for index in places])


def kinds_of_sheet(sheet):
    kinds = {}
    for cell in sheet:
        kinds[cell[1]] = cell[2] if cell[0] == "input" else kind_of(kinds, cell[2])
    return kinds


def shown(sheet):
    kinds, means = kinds_of_sheet(sheet), {}
    for cell in sheet:
        means[cell[1]] = cell[3] if cell[0] == "input" else meaning(kinds, means, cell[2], Calls())
    return tuple((name, means[name]) for name in kinds if is_data(kinds[name]))


def edited(sheet, edit):
    changes = dict(edit)
    return tuple(
        cell[:3] + (led(cell[2], cell[3], changes[cell[1]]),) if cell[1] in changes else cell for cell in sheet)


def looked_at(sheet, edit):
    """The names of the cells that are looked at in an edit, by what is shown ahead of it and behind it."""
    ahead, behind = dict(shown(sheet)), dict(shown(edited(sheet, edit)))
    changed, found = set(), []
    for cell in sheet:
        name = cell[1]
        looked = cell[0] == "cell" and bool(names_in(cell[2]) & changed)
        if looked:
            found.append(name)
        if (cell[0] == "input" or looked) and (name not in ahead or ahead[name] != behind[name]):
            changed.add(name)
    return tuple(found)


def told(sheet, edit):
    """What a keeper tells of an edit."""
    kinds, ahead, behind = kinds_of_sheet(sheet), dict(shown(sheet)), dict(shown(edited(sheet, edit)))
    return tuple(
        (name, less(kinds[name], behind[name], ahead[name])) for name in ahead if ahead[name] != behind[name])
