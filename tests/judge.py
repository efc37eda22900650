"""Tells of claims and papers what the document does, once more: by the second interpreter.

What is a kind, a term as written, a sound sheet, is asked of the package, where other tests check it.
"""

from changewise.deriving import derivative
from changewise.kinds import is_data_kind, is_kind
from changewise.sheets import is_sound
from changewise.terms import is_name, is_term, is_written
from tests import oracle

PAIRS = {"means": "means not", "alike": "unlike", "shown": "not shown", "derivative": "no derivative"}


class No(Exception):
    """Something is not as told."""


def need(holds):
    if not holds:
        raise No()


def judged(claim, paper):
    """Whether a claim and its paper are to be accepted."""
    try:
        need(type(claim) is tuple and claim and type(claim[0]) is str and claim[0] in RULES)
        word, *told = claim
        rule, many = RULES[word]
        need(len(told) == many)
        return rule(word, told, paper)
    except No:
        return False


def is_row(thing, size=None):
    return type(thing) is tuple and (size is None or len(thing) == size)


def kind_in(kinds, term):
    try:
        return oracle.kind_of(kinds, term)
    except oracle.NoKind:
        raise No()


def told_of(term, values):
    """The kind and the value of a closed term called with values."""
    need(is_row(values) and len(values) <= 8)
    kind, found = kind_in({}, term), oracle.meaning({}, {}, term, oracle.Calls())
    for value in values:
        need(kind[0] == "fun" and is_data_kind(kind[1]) and oracle.is_value(kind[1], value))
        kind, found = kind[2], found(value)
    need(is_data_kind(kind))
    return kind, found


def means(word, told, paper):
    term, values, value = told
    need(is_row(paper, 0) and is_written(term))
    kind_in({}, term)
    kind, found = told_of(term, values)
    need(oracle.is_value(kind, value))
    return (found == value) is (word == "means")


def unlike_functions(word, told, paper):
    one, two = told
    need(is_written(one) and is_written(two) and kind_in({}, one) == kind_in({}, two))
    return told_of(one, paper)[1] != told_of(two, paper)[1]


def context_of(context):
    need(is_row(context) and len(context) <= 40)
    for pair in context:
        need(is_row(pair, 2) and is_kind(pair[1]) and is_term(("name", pair[0])))
    return dict(context)


def values_of(names):
    need(is_row(names) and len(names) <= 40)
    for row in names:
        need(is_row(row, 3) and is_name(row[0]) and is_data_kind(row[1]) and oracle.is_value(row[1], row[2]))
    return {row[0]: row[1] for row in names}, {row[0]: row[2] for row in names}


def is_fitting(kind, value, change):
    return oracle.is_value(oracle.changes(kind), change) and oracle.fits(kind, value, change)


def changes_of(kinds, values, changes):
    need(is_row(changes))
    last = ""
    for pair in changes:
        need(is_row(pair, 2) and is_name(pair[0]) and pair[0] in kinds and last < pair[0])
        need(is_fitting(kinds[pair[0]], values[pair[0]], pair[1]))
        last = pair[0]
    return dict(changes)


def is_leading(kinds, values, changes, term, change):
    kind = kind_in(kinds, term)
    need(is_data_kind(kind))
    now = {**values, **{name: oracle.led(kinds[name], values[name], changes[name]) for name in changes}}
    was, behind = [oracle.meaning(kinds, each, term, oracle.Calls()) for each in (values, now)]
    return is_fitting(kind, was, change) and oracle.led(kind, was, change) == behind


def leads(word, told, paper):
    names, changes, term, change = told
    need(is_row(paper, 0) and is_written(term))
    kinds, values = values_of(names)
    return is_leading(kinds, values, changes_of(kinds, values, changes), term, change)


def derives(word, told, paper):
    context, changing, term, other = told
    kinds = context_of(context)
    need(is_row(changing) and all(is_name(name) and name in kinds for name in changing))
    need(list(changing) == sorted(set(changing)) and is_written(term) and is_term(other))
    kind = kind_in(kinds, term)
    if word == "derivative":
        return is_row(paper, 0) and other == derivative(context, changing, term)
    need(is_data_kind(kind) and is_row(paper, 2))
    marked = {name + "'": oracle.changes(kinds[name]) for name in changing}
    need(kind_in({**kinds, **marked}, other) == oracle.changes(kind))
    names, changes = paper
    _, values = values_of(names)
    need(tuple(row[:2] for row in names) == context)
    told = changes_of(kinds, values, changes)
    need(tuple(told) == changing)
    given = {**values, **{name + "'": told[name] for name in told}}
    change = oracle.meaning({**kinds, **marked}, given, other, oracle.Calls())
    return not is_leading(kinds, values, told, term, change)


def adds_not(word, told, paper):
    term, = told
    need(is_written(term))
    kind = kind_in({}, term)
    need(kind[0] == "fun" and kind[1][0] == "bag" and oracle.is_group(kind[2]) and is_row(paper, 2))
    need(all(oracle.is_value(kind[1], bag) for bag in paper))
    call, (one, two) = oracle.meaning({}, {}, term, oracle.Calls()), paper
    both = oracle.plus(kind[2], call(oracle.plus(kind[1], one, two)), call(()))
    return both != oracle.plus(kind[2], call(one), call(two))


def led(word, told, paper):
    kind, value, change, new = told
    need(is_row(paper, 0) and is_data_kind(kind) and oracle.is_value(kind, value) and oracle.is_value(kind, new))
    return is_fitting(kind, value, change) and oracle.led(kind, value, change) == new


def both(word, told, paper):
    kind, value, one, two = told
    need(is_row(paper, 0) and is_data_kind(kind) and oracle.is_value(kind, value))
    need(is_fitting(kind, value, one) and is_fitting(kind, value, two))
    return (oracle.led(kind, value, one) == oracle.led(kind, value, two)) is (word == "alike")


def shows(word, told, paper):
    sheet, edits, name, value = told
    need(is_sound(sheet) and is_row(edits) and len(edits) <= 40)
    sheets = [sheet]
    for edit in edits:
        need(is_edit(sheets[-1], edit))
        sheets.append(oracle.edited(sheets[-1], edit))
    kinds = oracle.kinds_of_sheet(sheet)
    need(type(name) is str and name in kinds and is_data_kind(kinds[name]) and oracle.is_value(kinds[name], value))
    so = dict(oracle.shown(sheets[-1]))[name] == value
    if word == "not shown" or is_row(paper, 0):
        return is_row(paper, 0) and so is (word == "shown")
    need(so and is_row(paper, 2) and type(paper[0]) is str and paper[0] == "kept" and is_row(paper[1], len(edits)))
    seen = [dict(oracle.shown(each))[name] for each in sheets]
    return all(is_fitting(kinds[name], was, change) and oracle.led(kinds[name], was, change) == now
               for was, change, now in zip(seen, paper[1], seen[1:]))


def is_edit(sheet, edit):
    if not is_row(edit) or not all(is_row(pair, 2) and type(pair[0]) is str for pair in edit):
        return False
    inputs = {cell[1]: cell for cell in sheet if cell[0] == "input"}
    if not all(name in inputs and is_fitting(*inputs[name][2:], change) for name, change in edit):
        return False
    places = [list(inputs).index(name) for name, _ in edit]
    return places == sorted(set(places))


RULES = {
    "means": (means, 3), "means not": (means, 3), "unlike functions": (unlike_functions, 2), "leads": (leads, 4),
    "derivative": (derives, 4), "no derivative": (derives, 4), "adds not": (adds_not, 1), "led": (led, 4),
    "alike": (both, 4), "unlike": (both, 4), "shown": (shows, 4), "not shown": (shows, 4),
}
