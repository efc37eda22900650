"""Wrong arguments: what is no such thing, for each parameter that an error is told for."""

from changewise.errors import (
    InvalidChanges, InvalidChanging, InvalidContext, InvalidNames, InvalidTerm, InvalidValues,
)
from tests.cases import Case, Stubborn, nested, odd_things

UNIT, NUM = ("unit",), ("num",)
BAG, STEP = ("bag", NUM), ("fun", NUM, NUM)
X, ONE = ("name", "x"), ("number", 1)


class AskingCase(Case):

    def check_wrong(self, call, right, wrong, last=None):
        """Each wrong thing is told, by position and by name, whatever stands in the places behind it.

        right is a dict of arguments in the order of the signature; wrong has for each of these the triples
        (THING, ERROR, ATTRIBUTES). last is the error that is told if nothing is wrong in that way, if one is.
        """
        names = list(right)
        if last is None:
            self.assert_same(call(**right), call(*right.values()))
        else:
            self.assertRaises(last, call, **right)
        for at, name in enumerate(names):
            for thing, error, attributes in wrong[name]:
                behind = {other: wrong[other][-1][0] for other in names[at + 1:] if wrong[other]}
                for passed in ({**right, name: thing}, {**right, **behind, name: thing}):
                    with self.subTest(call.__name__, name=name, thing=thing):
                        self.assert_told(error, attributes, call, *passed.values())
                        turned = {other: passed[other] for other in names[::-1]}
                        self.assert_told(error, attributes, call, **turned)


def given(error, things):
    return [(thing, error, {"given": thing}) for thing in things]


def indexed(error, pairs):
    return [(thing, error, {"index": index}) for thing, index in pairs]


def placed(pairs):
    return [(thing, InvalidTerm, {"place": place}) for thing, place in pairs]


NO_TUPLES = (None, True, False, 0, 1, "", "x", b"", [], [1], {}, {"x": 1}, {1}, range(2), object(), Stubborn())


def tower(depth, leaf=X):
    for _ in range(depth - 1):
        leaf = ("minus", leaf)
    return leaf


def wrong_terms():
    """What is no term."""
    found = [(thing, (1,) * 100 if is_pair(thing) else ()) for thing in odd_things()]
    found += [(X[:1], ()), (X + ("y",), ()), (list(X), ()), (("plus", X), ()), (("num",), ()), (("plus", X, "y"), (2,)),
              (("plus", ("minus", "x"), "y"), (1, 1)), (("name", "X"), (1,)), (("number", True), (1,)),
              (("zero", UNIT), (1,)), (("fn", "x", ("bag", BAG), X), (2,)), (("is", ">", X, X), (1,)),
              (("let", "x", X, ("first", 1)), (3, 1)), (tower(101), (1,) * 100), (("fn", "x", nested(101), X), (2,)),
              (("number", 10 ** 400), (1,)), ([1], ())]
    return placed(found)


def is_pair(thing):
    """Whether one of the odd things looks like pairs within pairs."""
    return isinstance(thing, tuple) and len(thing) == 3 and type(thing[0]) is str and thing[0] == "pair"


def of_parts(many):
    """A term of just so many parts, and not deep."""
    if many < 3:
        return ONE if many == 1 else ("minus", ONE)
    return ("plus", of_parts((many - 1) // 2), of_parts(many - 1 - (many - 1) // 2))


def wrong_written():
    """What is no term as written."""
    # What is wrong deeper within than 12 is told where it begins to be too deep.
    found = [(thing, attributes["place"][:12]) for thing, _, attributes in wrong_terms()]
    kind = nested(7, ("fun",), UNIT, (NUM,))
    found += [(tower(13, ONE), (1,) * 12), (("fn", "x", kind, X), (2,)), (("left", X, kind), (2,)),
              (("right", kind, X), (1,)), (("zero", ("pair", nested(6, ("pair",), NUM, (NUM,)), NUM)), (1,)),
              (("name", "x'"), (1,)), (("fn", "x'", NUM, ONE), (1,)), (("let", "x'", ONE, ONE), (1,)),
              (("case", X, "y", X, "z'1", X), (4,)), (("plus", ONE, ("name", "x'")), (2, 1)),
              (of_parts(121), ()), (of_parts(200), ()), (("plus", of_parts(130), ("name", "x'")), (2, 1)),
              (("plus", ("name", "x'"), tower(13)), (1, 1)), (("plus", tower(13), ("name", "x'")), (1,) + (1,) * 11),
              (["plus"], ())]
    return placed(found)


def wrong_contexts():
    """What is no context."""
    row = ("x", NUM)
    found = [(thing, None) for thing in NO_TUPLES] + [(((row,) * 41), None), ([row], None)]
    elements = odd_elements() + [
        ("x",), ("x", NUM, NUM), ["x", NUM], ("X", NUM), ("let", NUM), ("x''", NUM), ("x", "num"), ("x", ["num"]),
        ("x", ("bag", BAG)), ("x", nested(101)), (NUM, "x"), ("x", None), (None, NUM), (["x"], NUM), (Stubborn(), NUM),
        ("x", Stubborn()), "xn"]
    for thing in elements:
        found += [((thing,), 0), ((row, ("y'", STEP), thing), 2), ((row, thing, thing, row), 1)]
    return indexed(InvalidContext, found)


def odd_elements():
    return [thing for thing in odd_things()] + [(), (1, 2), ("x", "x"), ("x", "x", "x")]


def wrong_names():
    """What are no names with values."""
    row = ("x", NUM, 3)
    found = [(thing, None) for thing in NO_TUPLES] + [(((row,) * 41), None), ([row], None)]
    elements = odd_elements() + [
        ("x", NUM), ("x", NUM, 1, 1), ["x", NUM, 1], ("x'", NUM, 1), ("X", NUM, 1), ("fn", NUM, 1), ("x", STEP, ONE),
        ("x", ("pair", STEP, NUM), 1), ("x", "num", 1), ("x", NUM, True), ("x", NUM, ()), ("x", BAG, ((1, 0),)),
        ("x", BAG, ((2, 1), (1, 1))), ("x", BAG, [(1, 1)]), ("x", ("bag", BAG), ()), (None, NUM, 1), ("x", None, 1),
        ("x", UNIT, None), (["x"], NUM, 1), (Stubborn(), NUM, 1), ("x", Stubborn(), 1), ("x", NUM, Stubborn())]
    for thing in elements:
        found += [((thing,), 0), ((row, ("y", BAG, ()), thing), 2), ((row, thing, thing, row), 1)]
    return indexed(InvalidNames, found)


def wrong_changing():
    """What are no names of a context with x, y, z and z' that may change."""
    found = [(thing, None) for thing in NO_TUPLES] + [(["x"], None)]
    for thing in odd_elements() + ["X", "w", "z'", "x'", "fn", ["x"], ("x",), 1]:
        found += [((thing,), 0), (("x", thing), 1), (("x", "y", thing, "z"), 2)]
    found += [(("y", "x"), 1), (("x", "x"), 1), (("x", "z", "y"), 2), (("x", "y", "y", "z"), 2), (("z", "y", "w"), 1)]
    return indexed(InvalidChanging, found)


def wrong_changes():
    """What are no changes of x, num, of y, bag num, and of z, left 3 of num | unit."""
    found = [(thing, None) for thing in NO_TUPLES] + [([("x", 1)], None)]
    right = (("x", 1), ("y", ((1, 1),)))
    elements = odd_elements() + [
        ("z",), ("z", ("right", ("left", 1)), 1), ["z", ("right", ("left", 1))], ("w", 1), ("zz", 1), ("z'", 1), ("Z", 1),
        ("z", True), ("z", 1), ("z", ("left", 1)), ("z", ("left", ("right", ()))), ("z", ("right", ("left", ()))),
        ("z", ["right", ("left", 1)]), (["z"], 1), (Stubborn(), 1), ("z", Stubborn()), ("x", 1), ("y", ()), (1, "z")]
    for thing in elements:
        found += [(right + (thing,), 2), (right + (thing, thing), 2)]
    found += [((("x", True),), 0), ((("x", ()),), 0), ((("y", ((1, 0),)),), 0), ((("y", ((2, 1), (1, 1))),), 0),
              ((("y", 1),), 0), ((("y", ()), ("x", 1)), 1), ((("x", 1), ("x", 1)), 1)]
    return indexed(InvalidChanges, found)


def wrong_values():
    """What are no values for a function of the kind num -> bag num -> (num -> num) -> num."""
    found = [(thing, None) for thing in NO_TUPLES] + [((1,) * 9, None), ([1], None), ((1, ()) + (1,) * 7, None)]
    for thing in odd_things():
        if not isinstance(thing, int) or isinstance(thing, bool):
            found += [((thing,), 0), ((1, thing), 1), ((1, thing, 1), 1)]
    # A side may look like a value of a function's kind to what takes all kinds for data.
    found += [((1, (), ("left", 3)), 2), ((1, (), ("right", 3)), 2)]
    found += [((1, 1), 1), ((1, ((1, 0),)), 1), ((1, [(1, 1)]), 1), ((1, (), 1), 2), ((1, (), ("fn", "x", NUM, X)), 2),
              ((1, (), None), 2), ((True, None), 0), ((1, (), 1, 1), 2)]
    return indexed(InvalidValues, found)
