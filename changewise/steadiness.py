"""Which terms are steady: the change of what they mean hangs on the changes alone."""

from changewise.kinds import is_known_group

# What is done part by part leads a sum of changes to the sum of what each is led to.
_BY_PARTS = ("plus", "minus", "pair", "first", "second")


def is_steady_in(part, changing):
    """Whether the term that a Part is is steady; a dict has the kinds of the names that may change."""
    found = _changed(part, changing)
    if found == []:
        return True
    if [name for name in found if not is_known_group(changing[name])] != []:
        return False
    word = part.term[0]
    if word == "let":
        return _is_steady_let(part, changing)
    if word == "total":
        asked, bag = part.parts
        return _changed(asked, changing) == [] and is_steady_in(bag, changing)
    if word == "times":
        moved = [inner for inner in part.parts if _changed(inner, changing) != []]
        return len(moved) == 1 and is_steady_in(moved[0], changing)
    if word in _BY_PARTS:
        unsteady = [inner for inner in part.parts if not is_steady_in(inner, changing)]
        return unsteady == []
    return word == "name"


def _is_steady_let(part, changing):
    told, body = part.parts
    name = part.term[1]
    within = {other: changing[other] for other in changing if other != name}
    if _changed(told, changing) != []:
        within[name] = told.kind
    return is_steady_in(told, changing) and is_steady_in(body, within)


def _changed(part, changing):
    """The names that stand free in a part and may change."""
    return [name for name in part.names if name in changing]
