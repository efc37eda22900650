"""What several tests share: how a told error is asked for, and odd things to pass."""

import unittest


class Case(unittest.TestCase):

    def assert_told(self, error, attributes, call, *arguments, **named):
        """The call raises just this error, with just these attributes."""
        with self.assertRaises(error) as caught:
            call(*arguments, **named)
        self.assertIs(type(caught.exception), error)
        self.assertEqual(sorted(vars(caught.exception)), sorted(attributes))
        for name, told in attributes.items():
            # True and 1 are equal, so what was passed is asked for itself; what is found is made anew.
            found = getattr(caught.exception, name)
            if name == "given":
                self.assertIs(found, told)
            else:
                self.assert_same(found, told)

    def assert_same(self, found, expected):
        """Equal, True and 1 being told apart."""
        self.assertEqual(repr(found), repr(expected))


class Stubborn:
    """Calls itself equal to anything."""

    __hash__ = None

    def __eq__(self, other):
        return True


def nested(depth, ahead=("pair",), inner=("num",), behind=(("num",),)):
    """inner, wrapped until it is depth deep; inner itself is 1 deep."""
    thing = inner
    for _ in range(depth - 1):
        thing = (*ahead, thing, *behind)
    return thing


def nested_list(depth):
    thing = []
    for _ in range(depth - 1):
        thing = [thing]
    return thing


def odd_things():
    """New objects of many sorts that are neither kinds nor values of one."""
    return [
        None, True, False, "", "num", "unit", "()", b"", b"num", 10 ** 500,
        [], ["num"], ["unit"], {}, {"num": 1}, set(), {"num"}, frozenset(), range(3), len, object, object(),
        Stubborn(), (None,), ((),), (("num",),), (["num"],), ({"num": 1},), ({"num"},), (b"num",), (1,),
        (True,), (Stubborn(),), (Stubborn(), ("num",)), (Stubborn(), ("num",), ("num",)),
        (Stubborn(), 1, 1), (Stubborn(), 1), nested(300, ("pair",), (), ()), nested_list(300),
        nested(300, ("pair",), "num", ("num",)), nested(300, ("left",), (), ()),
    ]
