"""What the document's interface lists exists as written, in the file told."""

import importlib
import inspect
import unittest

FUNCTIONS = {
    "changewise.kinds": {
        "is_kind": ["value"], "is_plain_kind": ["value"], "is_data_kind": ["value"], "is_group_kind": ["value"],
        "depth_of_kind": ["kind"],
    },
    "changewise.values": {
        "is_value": ["kind", "value"], "order": ["kind", "one", "two"], "zero_of": ["kind"],
        "sum_of": ["kind", "one", "two"], "opposite": ["kind", "one"], "many_of": ["kind", "number", "one"],
        "bag_of": ["kind", "pairs"], "count_of": ["kind", "bag", "value"], "support_of": ["kind", "bag"],
    },
    "changewise.terms": {
        "is_name": ["value"], "is_term": ["value"], "is_written": ["value"], "parts_of": ["term"], "depth_of": ["term"],
        "free_names": ["term"], "part_at": ["term", "path"],
    },
    "changewise.text": {
        "read_kind": ["text"], "read_term": ["text"], "read_value": ["kind", "text"], "read_sheet": ["text"],
        "show_kind": ["kind"], "show_term": ["term"], "show_value": ["kind", "value"], "show_sheet": ["sheet"],
    },
    "changewise.kinding": {"kind_of": ["context", "term"]},
    "changewise.meaning": {
        "value_in": ["names", "term"], "calls_in": ["names", "term"], "applied": ["term", "values"],
    },
    "changewise.changes": {
        "change_kind": ["kind"], "is_change": ["kind", "thing"], "fits": ["kind", "value", "change"],
        "led": ["kind", "value", "change"], "less": ["kind", "new", "old"], "nothing": ["kind", "value"],
        "settled": ["kind", "value", "change"], "are_alike": ["kind", "value", "one", "two"],
        "changes_nothing": ["kind", "value", "change"], "joined": ["kind", "value", "one", "two"],
        "back": ["kind", "value", "change"], "led_term": ["kind"], "less_term": ["kind"], "nothing_term": ["kind"],
    },
    "changewise.checker": {"accepts": ["claim", "paper"]},
    "changewise.certificates": {
        "certify_led": ["kind", "value", "change"], "certify_both": ["kind", "value", "one", "two"],
        "certify_meaning": ["term", "values", "value"], "certify_unlike": ["term", "other", "values"],
        "certify_change": ["names", "changes", "written"], "certify_derivative": ["context", "changing", "written"],
        "certify_no_sum": ["written", "one", "two"], "certify_shown": ["sheet", "edits", "name"],
    },
    "changewise.deriving": {
        "derivative": ["context", "changing", "written"], "is_steady": ["context", "changing", "written"],
        "adds": ["written", "one", "two"], "kept_change": ["names", "changes", "written"],
    },
    "changewise.sheets": {
        "is_sound": ["value"], "kinds_in": ["sheet"], "shown": ["sheet"], "hangs_on": ["sheet", "name"],
        "is_edit": ["sheet", "value"], "edited": ["sheet", "edit"], "back_edit": ["sheet", "edit"],
        "joined_edits": ["sheet", "one", "two"], "looked_at": ["sheet", "edit"],
    },
}

METHODS = {
    ("changewise.sheets", "Keeper"): {
        "__init__": ["self", "sheet"], "shown": ["self"], "value": ["self", "name"], "edit": ["self", "edit"],
        "undo": ["self"], "sheet": ["self"],
    },
    ("changewise.desk", "Desk"): {"__init__": ["self"], "say": ["self", "line"], "sheet": ["self"]},
}
PROPERTIES = {("changewise.sheets", "Keeper"): ["looked", "calls", "done"], ("changewise.desk", "Desk"): []}


class InterfaceTest(unittest.TestCase):

    def test_functions_stand_where_they_are_listed(self):
        for module, functions in FUNCTIONS.items():
            for name, parameters in functions.items():
                with self.subTest(name):
                    found = getattr(importlib.import_module(module), name)
                    self.assertEqual((found.__module__, found.__name__), (module, name))
                    self.check_parameters(found, parameters)

    def test_methods_stand_in_the_class_itself(self):
        for (module, name), methods in METHODS.items():
            made = getattr(importlib.import_module(module), name)
            self.assertEqual((made.__module__, made.__name__), (module, name))
            for method, parameters in methods.items():
                with self.subTest(method):
                    self.check_parameters(vars(made)[method], parameters)
            for told in PROPERTIES[module, name]:
                self.assertIsInstance(vars(made)[told], property)
                self.assertIsNone(vars(made)[told].fset)

    def check_parameters(self, found, parameters):
        self.assertTrue(inspect.isfunction(found))
        told = inspect.signature(found).parameters.values()
        self.assertEqual([each.name for each in told], parameters)
        self.assertEqual({each.kind for each in told}, {inspect.Parameter.POSITIONAL_OR_KEYWORD})
        self.assertEqual({each.default for each in told}, {inspect.Parameter.empty})


if __name__ == "__main__":
    unittest.main()
