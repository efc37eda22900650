"""What terms and sheets mean, told once more in another way than the package does: by recursion, with
Python's own functions for functions and dicts for bags. Tests compare the two."""

NUM, UNIT = ("num",), ("unit",)
TRUTH = ("either", UNIT, UNIT)


def is_group(kind):
    return kind[0] in ("num", "bag") or kind[0] == "pair" and all(is_group(part) for part in kind[1:])


def is_data(kind):
    return kind[0] != "fun" and all(is_data(part) for part in kind[1:])


def is_plain(kind):
    return kind[0] not in ("fun", "bag") and all(is_plain(part) for part in kind[1:])


class NoKind(Exception):
    """Has the path to what is wrong first."""


def kind_of(kinds, term, path=()):
    """The kind of a term in a dict of kinds."""
    def at(index, **bound):
        return kind_of({**kinds, **bound}, term[index], path + (index,))

    def need(holds, *index):
        if not holds:
            raise NoKind(path + index)

    word = term[0]
    if word == "name":
        need(term[1] in kinds)
        return kinds[term[1]]
    if word == "fn":
        return ("fun", term[2], at(3, **{term[1]: term[2]}))
    if word == "let":
        return at(3, **{term[1]: at(2)})
    if word in ("unit", "number"):
        return UNIT if word == "unit" else NUM
    if word == "zero":
        return term[1]
    if word in ("left", "right"):
        return ("either", at(1), term[2]) if word == "left" else ("either", term[1], at(2))
    if word == "case":
        told = at(1)
        need(told[0] == "either", 1)
        one, two = at(3, **{term[2]: told[1]}), at(5, **{term[4]: told[2]})
        need(one == two, 5)
        return one
    if word == "is":
        one, two = at(2), at(3)
        need(one == NUM, 2)
        need(two == NUM, 3)
        return TRUTH
    one = at(1)
    two = at(2) if len(term) > 2 else None
    if word == "call":
        need(one[0] == "fun", 1)
        need(one[1] == two, 2)
        return one[2]
    if word in ("plus", "minus"):
        need(is_group(one), 1)
        need(word == "minus" or one == two, 2)
        return one
    if word == "times":
        need(one == NUM, 1)
        need(two == NUM, 2)
        return NUM
    if word == "pair":
        return ("pair", one, two)
    if word in ("first", "second"):
        need(one[0] == "pair", 1)
        return one[1 if word == "first" else 2]
    if word == "one":
        need(is_plain(one), 1)
        return ("bag", one)
    if word == "total":
        need(one[0] == "fun" and is_plain(one[1]) and is_group(one[2]), 1)
        need(two == ("bag", one[1]), 2)
        return one[2]
    need(one[0] == "bag", 1)
    if word == "support":
        return one
    need(two == one[1], 2)
    return NUM


def zero(kind):
    if kind == NUM:
        return 0
    return () if kind[0] == "bag" else ("pair", zero(kind[1]), zero(kind[2]))


def many(kind, number, value):
    if kind == NUM:
        return number * value
    if kind[0] == "bag":
        return tuple((held, number * times) for held, times in value if number)
    return ("pair", many(kind[1], number, value[1]), many(kind[2], number, value[2]))


def plus(kind, one, two):
    if kind == NUM:
        return one + two
    if kind[0] == "pair":
        return ("pair", plus(kind[1], one[1], two[1]), plus(kind[2], one[2], two[2]))
    found = dict(one)
    for value, times in two:
        found[value] = found.get(value, 0) + times
    return tuple(sorted((value, times) for value, times in found.items() if times))


def changes(kind):
    """The kind of the changes of a kind."""
    if kind[0] == "pair":
        return ("pair", changes(kind[1]), changes(kind[2]))
    if kind[0] == "either":
        return ("either", ("either", changes(kind[1]), changes(kind[2])), kind)
    return ("fun", kind[1], ("fun", changes(kind[1]), changes(kind[2]))) if kind[0] == "fun" else kind


def led(kind, value, change):
    """A value led by a change; of functions, too, which are Python's here."""
    if kind[0] == "fun":
        return lambda told: led(kind[2], value(told), change(told)(still(kind[1], told)))
    if kind[0] == "either":
        if change[0] == "right":
            return change[1]
        side = kind[1] if value[0] == "left" else kind[2]
        return (value[0], led(side, value[1], change[1][1])) if change[1][0] == value[0] else value
    if kind[0] == "pair":
        return ("pair", led(kind[1], value[1], change[1]), led(kind[2], value[2], change[2]))
    return () if kind == UNIT else plus(kind, value, change)


def less(kind, new, old):
    """The difference of two values; of functions, too."""
    if kind[0] == "fun":
        return lambda told: lambda change: less(kind[2], new(led(kind[1], told, change)), old(told))
    if kind[0] == "either":
        if new[0] != old[0]:
            return ("right", new)
        return ("left", (new[0], less(kind[1 if new[0] == "left" else 2], new[1], old[1])))
    if kind[0] == "pair":
        return ("pair", less(kind[1], new[1], old[1]), less(kind[2], new[2], old[2]))
    return () if kind == UNIT else plus(kind, new, many(kind, -1, old))


def still(kind, value):
    return less(kind, value, value)


def fits(kind, value, change):
    """Whether a change of a data kind fits."""
    if kind[0] == "pair":
        return all(fits(kind[at], value[at], change[at]) for at in (1, 2))
    if kind[0] == "either" and change[0] == "left":
        return change[1][0] == value[0] and fits(kind[1 if value[0] == "left" else 2], value[1], change[1][1])
    return True


def joined(kind, value, one, two):
    """One change of a data kind that fits, and then another one that fits there."""
    if kind[0] == "pair":
        return ("pair",) + tuple(joined(kind[at], value[at], one[at], two[at]) for at in (1, 2))
    if kind[0] == "either":
        if two[0] == "right":
            return two
        if one[0] == "right":
            return ("right", led(kind, one[1], two))
        side = kind[1] if value[0] == "left" else kind[2]
        return ("left", (value[0], joined(side, value[1], one[1][1], two[1][1])))
    return () if kind == UNIT else plus(kind, one, two)


def is_value(kind, value):
    """Whether a thing, whatever it is, is a value of a data kind."""
    if kind == NUM:
        return type(value) is int
    if type(value) is not tuple:
        return False
    if kind == UNIT:
        return value == ()
    if kind[0] == "bag":
        rows = [row for row in value if type(row) is tuple and len(row) == 2]
        if len(rows) != len(value) or not all(is_value(kind[1], held) and type(times) is int for held, times in rows):
            return False
        held = [held for held, _ in rows]
        return all(times for _, times in rows) and held == sorted(set(held))
    if not value or type(value[0]) is not str:
        return False
    if kind[0] == "pair":
        return value[0] == "pair" and len(value) == 3 and all(is_value(kind[at], value[at]) for at in (1, 2))
    return len(value) == 2 and value[0] in ("left", "right") and is_value(kind[1 + (value[0] == "right")], value[1])


class Calls:

    def __init__(self):
        self.made = 0

    def function(self, call):
        def counted(value):
            self.made += 1
            return call(value)
        return counted


def meaning(kinds, means, term, calls):
    """What a term means; functions are Python's, each call of which is counted."""
    return read(kinds, term)[1](means, calls)


def read(kinds, term):
    """The kind of a term that has one, and what tells its meaning for values of the names and a counter."""
    word = term[0]
    if word == "name":
        return kinds[term[1]], lambda means, calls: means[term[1]]
    if word == "fn":
        kind, body = read({**kinds, term[1]: term[2]}, term[3])
        return ("fun", term[2], kind), lambda means, calls: calls.function(
            lambda value: body({**means, term[1]: value}, calls))
    if word == "let":
        told, first = read(kinds, term[2])
        kind, body = read({**kinds, term[1]: told}, term[3])
        return kind, lambda means, calls: body({**means, term[1]: first(means, calls)}, calls)
    if word == "case":
        sides, told = read(kinds, term[1])
        kind, left = read({**kinds, term[2]: sides[1]}, term[3])
        _, right = read({**kinds, term[4]: sides[2]}, term[5])

        def side(means, calls):
            found = told(means, calls)
            if found[0] == "left":
                return left({**means, term[2]: found[1]}, calls)
            return right({**means, term[4]: found[1]}, calls)
        return kind, side
    if word in ("unit", "number", "zero"):
        kind, value = {"unit": (UNIT, ()), "number": (NUM, term[-1])}.get(word, (term[-1], None))
        value = zero(kind) if word == "zero" else value
        return kind, lambda means, calls: value
    if word == "left":
        kind, part = read(kinds, term[1])
        return ("either", kind, term[2]), lambda means, calls: ("left", part(means, calls))
    if word == "right":
        kind, part = read(kinds, term[2])
        return ("either", term[1], kind), lambda means, calls: ("right", part(means, calls))
    parts = [read(kinds, part) for part in (term[2:] if word == "is" else term[1:])]
    kind, deed = deed_of(term, [kind for kind, _ in parts])
    return kind, lambda means, calls: deed(*[part(means, calls) for _, part in parts])


def deed_of(term, kinds):
    """The kind of a term that reckons with its parts, by theirs, and what it does."""
    word, kind = term[0], kinds[0]
    if word == "call":
        return kind[2], lambda call, value: call(value)
    if word == "plus":
        return kind, lambda one, two: plus(kind, one, two)
    if word == "minus":
        return kind, lambda one: many(kind, -1, one)
    if word == "times":
        return NUM, lambda one, two: one * two
    if word == "pair":
        return ("pair", *kinds), lambda one, two: ("pair", one, two)
    if word in ("first", "second"):
        at = 1 if word == "first" else 2
        return kind[at], lambda one: one[at]
    if word == "is":
        def tells(one, two):
            return ("left" if {"<": one < two, "<=": one <= two, "==": one == two}[term[1]] else "right", ())
        return TRUTH, tells
    if word == "one":
        return ("bag", kind), lambda one: ((one, 1),)
    if word == "total":
        return kind[2], lambda call, bag: total(kind[2], [(times, call(value)) for value, times in bag])
    if word == "count":
        return NUM, lambda bag, value: dict(bag).get(value, 0)
    return kind, lambda bag: tuple((value, 1) for value, times in bag if times > 0)


def total(kind, answers):
    found = zero(kind)
    for times, answer in answers:
        found = plus(kind, found, many(kind, times, answer))
    return found


def names_in(term, bound=()):
    """The free names of a term."""
    if term[0] == "name":
        return set() if term[1] in bound else {term[1]}
    if term[0] == "fn":
        return names_in(term[3], bound + (term[1],))
    if term[0] == "let":
        return names_in(term[2], bound) | names_in(term[3], bound + (term[1],))
    if term[0] == "case":
        sides = names_in(term[3], bound + (term[2],)) | names_in(term[5], bound + (term[4],))
        return names_in(term[1], bound) | sides
    if term[0] in ("zero", "number", "unit"):
        return set()
    places = {"left": (1,), "right": (2,), "is": (2, 3)}.get(term[0], range(1, len(term)))
    return set().union(*[names_in(term[index], bound) for index in places])


def kinds_of_sheet(sheet):
    kinds = {}
    for cell in sheet:
        kinds[cell[1]] = cell[2] if cell[0] == "input" else kind_of(kinds, cell[2])
    return kinds


def shown(sheet):
    kinds, means = kinds_of_sheet(sheet), {}
    for cell in sheet:
        means[cell[1]] = cell[3] if cell[0] == "input" else meaning(kinds, means, cell[2], Calls())
    return tuple((name, means[name]) for name in kinds if is_data(kinds[name]))


def edited(sheet, edit):
    changes = dict(edit)
    return tuple(
        cell[:3] + (led(cell[2], cell[3], changes[cell[1]]),) if cell[1] in changes else cell for cell in sheet)


def looked_at(sheet, edit):
    """The names of the cells that are looked at in an edit, by what is shown ahead of it and behind it."""
    ahead, behind = dict(shown(sheet)), dict(shown(edited(sheet, edit)))
    changed, found = set(), []
    for cell in sheet:
        name = cell[1]
        looked = cell[0] == "cell" and bool(names_in(cell[2]) & changed)
        if looked:
            found.append(name)
        if (cell[0] == "input" or looked) and (name not in ahead or ahead[name] != behind[name]):
            changed.add(name)
    return tuple(found)


def told(sheet, edit):
    """What a keeper tells of an edit."""
    kinds, ahead, behind = kinds_of_sheet(sheet), dict(shown(sheet)), dict(shown(edited(sheet, edit)))
    return tuple(
        (name, less(kinds[name], behind[name], ahead[name])) for name in ahead if ahead[name] != behind[name])
