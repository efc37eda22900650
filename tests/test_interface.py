"""What the document's interface lists exists as written, in the file told."""

import importlib
import inspect
import unittest

FUNCTIONS = {
    "changewise.kinds": {
        "is_kind": ["value"], "is_plain_kind": ["value"], "is_data_kind": ["value"], "is_group_kind": ["value"],
        "depth_of_kind": ["kind"],
    },
    "changewise.values": {
        "is_value": ["kind", "value"], "order": ["kind", "one", "two"], "zero_of": ["kind"],
        "sum_of": ["kind", "one", "two"], "opposite": ["kind", "one"], "many_of": ["kind", "number", "one"],
        "bag_of": ["kind", "pairs"], "count_of": ["kind", "bag", "value"], "support_of": ["kind", "bag"],
    },
}


class InterfaceTest(unittest.TestCase):

    def test_functions_stand_where_they_are_listed(self):
        for module, functions in FUNCTIONS.items():
            for name, parameters in functions.items():
                with self.subTest(name):
                    found = getattr(importlib.import_module(module), name)
                    self.assertTrue(inspect.isfunction(found))
                    self.assertEqual((found.__module__, found.__name__), (module, name))
                    told = inspect.signature(found).parameters.values()
                    self.assertEqual([each.name for each in told], parameters)
                    self.assertEqual({each.kind for each in told}, {inspect.Parameter.POSITIONAL_OR_KEYWORD})
                    self.assertEqual({each.default for each in told}, {inspect.Parameter.empty})


if __name__ == "__main__":
    unittest.main()
