"""[5] and errors.py: the classes of errors, how they are made, what they keep."""

import unittest

from changewise import errors
from tests.cases import Stubborn, nested, nested_list

ATTRIBUTES = {
    "ChangeError": (),
    "InvalidKind": ("given",), "InvalidValue": ("given",), "InvalidNumber": ("given",),
    "InvalidChange": ("given",), "InvalidLine": ("given",), "UnknownName": ("given",),
    "NotData": ("kind",), "InvalidTerm": ("place",), "WrongTerm": ("place",),
    "InvalidText": ("line", "column"),
    "InvalidPairs": ("index",), "InvalidSheet": ("index",), "InvalidEdit": ("index",),
    "InvalidEdits": ("index",), "InvalidContext": ("index",), "InvalidNames": ("index",),
    "InvalidValues": ("index",), "InvalidChanging": ("index",), "InvalidChanges": ("index",),
    "NotFitting": (), "NothingDone": (),
}


def kept_things():
    return [
        None, True, False, 0, -3, 10 ** 500, "", "x", b"x", (), (1, "a"), [], [1], {}, {"a": []}, {1}, len,
        ValueError, Stubborn(), nested(300), nested_list(300),
    ]


class ErrorsTest(unittest.TestCase):

    def classes(self):
        return [(name, getattr(errors, name), told) for name, told in ATTRIBUTES.items()]

    def test_there_are_no_other_classes(self):
        found = [name for name, thing in vars(errors).items() if isinstance(thing, type)]
        self.assertEqual(sorted(found), sorted(ATTRIBUTES))

    def test_each_is_defined_here(self):
        for name, error, _ in self.classes():
            self.assertEqual((error.__module__, error.__name__), ("changewise.errors", name))

    def test_change_error_stands_under_value_error(self):
        self.assertEqual(errors.ChangeError.__bases__, (ValueError,))

    def test_all_others_stand_under_change_error_alone(self):
        for name, error, _ in self.classes():
            if name != "ChangeError":
                with self.subTest(name):
                    self.assertEqual(error.__bases__, (errors.ChangeError,))
                    self.assertEqual([each.__name__ for each in error.__mro__[1:3]], ["ChangeError", "ValueError"])

    def test_no_class_stands_under_another_one(self):
        for name, error, _ in self.classes():
            for other, above, _ in self.classes():
                if other not in (name, "ChangeError"):
                    self.assertFalse(issubclass(error, above), (name, other))

    def test_made_by_position_they_keep_whatever_it_is(self):
        for name, error, told in self.classes():
            for thing in kept_things():
                with self.subTest(name, thing=thing):
                    made = error(*[thing for _ in told])
                    self.assertEqual(tuple(vars(made)), told)
                    for attribute in told:
                        self.assertIs(getattr(made, attribute), thing)

    def test_made_by_name_they_keep_whatever_it_is(self):
        for name, error, told in self.classes():
            for thing in kept_things():
                with self.subTest(name, thing=thing):
                    made = error(**{attribute: thing for attribute in told})
                    self.assertEqual(tuple(vars(made)), told)
                    for attribute in told:
                        self.assertIs(getattr(made, attribute), thing)

    def test_what_is_kept_is_not_changed(self):
        things = [[1, [2]], {"a": [3]}, {4}]
        for _, error, told in self.classes():
            if len(told) == 1:
                for thing in things:
                    error(thing)
        self.assertEqual(things, [[1, [2]], {"a": [3]}, {4}])

    def test_line_and_column_are_told_apart(self):
        for made in (errors.InvalidText(2, 7), errors.InvalidText(2, column=7),
                     errors.InvalidText(column=7, line=2)):
            self.assertEqual((made.line, made.column), (2, 7))

    def test_two_side_by_side_keep_each_its_own(self):
        for name, error, told in self.classes():
            with self.subTest(name):
                one, two = error(*["one" for _ in told]), error(*["two" for _ in told])
                for attribute in told:
                    self.assertEqual((getattr(one, attribute), getattr(two, attribute)), ("one", "two"))

    def test_attributes_belong_to_the_made_error_not_to_the_class(self):
        for name, error, told in self.classes():
            for attribute in told:
                self.assertFalse(hasattr(error, attribute), (name, attribute))

    def test_each_is_caught_as_change_error_and_as_value_error(self):
        for name, error, told in self.classes():
            for above in (error, errors.ChangeError, ValueError):
                with self.subTest(name, above=above.__name__):
                    with self.assertRaises(above):
                        raise error(*[None for _ in told])

    def test_what_is_told_is_asked_for(self):
        for name, error, told in self.classes():
            if told:
                with self.subTest(name):
                    with self.assertRaises(TypeError):
                        error()


if __name__ == "__main__":
    unittest.main()
