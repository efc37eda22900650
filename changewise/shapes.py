"""The shapes of terms: which elements stand behind each word, and which names are bound where."""

SIGNS = ("<", "<=", "==")

SHAPES = {
    "name": ("name",),
    "fn": ("name", "kind", "term"),
    "call": ("term", "term"),
    "let": ("name", "term", "term"),
    "unit": (),
    "number": ("number",),
    "plus": ("term", "term"),
    "minus": ("term",),
    "times": ("term", "term"),
    "zero": ("group",),
    "pair": ("term", "term"),
    "first": ("term",),
    "second": ("term",),
    "left": ("term", "kind"),
    "right": ("kind", "term"),
    "case": ("term", "name", "term", "name", "term"),
    "is": ("sign", "term", "term"),
    "one": ("term",),
    "total": ("term", "term"),
    "count": ("term", "term"),
    "support": ("term",),
}

# Pairs: the index of a part, and that of the name that is bound in it.
_BOUND = {"fn": ((3, 1),), "let": ((3, 1),), "case": ((3, 2), (5, 4))}


def is_formed(value):
    """Whether a value is a tuple of a word of terms and as many elements as go with it."""
    if not isinstance(value, tuple) or len(value) == 0:
        return False
    # What is no text may have no place in a dict, so it is not looked up.
    if not isinstance(value[0], str) or value[0] not in SHAPES:
        return False
    return len(value) == 1 + len(SHAPES[value[0]])


def inner_terms(term):
    """The triples (index, term, name that is bound in it or None) of the terms among the elements."""
    bound = dict(_BOUND.get(term[0], ()))
    found = []
    for index, role in enumerate(SHAPES[term[0]], 1):
        if role == "term":
            name = term[bound[index]] if index in bound else None
            found.append((index, term[index], name))
    return found


def free_in(term):
    """The ascending tuple of the free names of what is known to be a term."""
    found = set()
    todo = [(term, ())]
    while todo:
        part, bound = todo.pop()
        if part[0] == "name" and part[1] not in bound:
            found.add(part[1])
        for _, inside, name in inner_terms(part):
            todo.append((inside, bound if name is None else bound + (name,)))
    return tuple(sorted(found))


def all_parts(term):
    """The list of all parts of what is known to be a term, each as often as it stands there."""
    found = []
    todo = [term]
    while todo:
        part = todo.pop()
        found.append(part)
        todo.extend([inside for _, inside, _ in inner_terms(part)])
    return found
