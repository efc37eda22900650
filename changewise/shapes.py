"""The shapes of terms: which elements stand behind each word, and which names are bound where."""

SIGNS = ("<", "<=", "==")

SHAPES = {
    "name": ("name",),
    "fn": ("name", "kind", "term"),
    "call": ("term", "term"),
    "let": ("name", "term", "term"),
    "unit": (),
    "number": ("number",),
    "plus": ("term", "term"),
    "minus": ("term",),
    "times": ("term", "term"),
    "zero": ("group",),
    "pair": ("term", "term"),
    "first": ("term",),
    "second": ("term",),
    "left": ("term", "kind"),
    "right": ("kind", "term"),
    "case": ("term", "name", "term", "name", "term"),
    "is": ("sign", "term", "term"),
    "one": ("term",),
    "total": ("term", "term"),
    "count": ("term", "term"),
    "support": ("term",),
}

# The indexes of the terms among the elements.
_PLACES = {
    "name": (), "fn": (3,), "call": (1, 2), "let": (2, 3), "unit": (), "number": (), "plus": (1, 2), "minus": (1,),
    "times": (1, 2), "zero": (), "pair": (1, 2), "first": (1,), "second": (1,), "left": (1,), "right": (2,),
    "case": (1, 3, 5), "is": (2, 3), "one": (1,), "total": (1, 2), "count": (1, 2), "support": (1,),
}
# Pairs: the index of a part, and that of the name that is bound in it.
_BOUND = {"fn": ((3, 1),), "let": ((3, 1),), "case": ((3, 2), (5, 4))}


def roles_in(value):
    """What each element of a value is to be, if it is a tuple of a word of terms and as many elements as go with it.

    None for another one.
    """
    if not isinstance(value, tuple) or len(value) == 0:
        return None
    # What is no text may have no place in a dict, so it is not looked up.
    if not isinstance(value[0], str) or value[0] not in SHAPES:
        return None
    roles = SHAPES[value[0]]
    return roles if len(value) == 1 + len(roles) else None


def term_places(term):
    """The indexes of the terms among the elements of a term."""
    return _PLACES[term[0]]


def free_in(term):
    """The ascending tuple of the free names of what is known to be a term."""
    found = set()
    todo = [(term, ())]
    while todo:
        part, bound = todo.pop()
        word = part[0]
        if word == "name":
            if part[1] not in bound:
                found.add(part[1])
        elif word in _BOUND:
            named = dict(_BOUND[word])
            for index in _PLACES[word]:
                todo.append((part[index], bound + (part[named[index]],) if index in named else bound))
        else:
            todo.extend([(part[index], bound) for index in _PLACES[word]])
    return tuple(sorted(found))


def all_parts(term):
    """The list of all parts of what is known to be a term, each as often as it stands there."""
    found = []
    todo = [term]
    while todo:
        part = todo.pop()
        found.append(part)
        todo.extend([part[index] for index in _PLACES[part[0]]])
    return found
