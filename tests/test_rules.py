"""The files of the package keep to the subset of the language, as far as rules.py can tell."""

import ast
import pathlib
import unittest

from tests.rules import breaches

TOP = pathlib.Path(__file__).resolve().parent.parent
PACKAGE = TOP / "changewise"


def sources():
    return sorted(PACKAGE.rglob("*.py"))


def imported_by(path):
    """The pairs (module, name) that a file imports from the package."""
    nodes = [node for node in ast.walk(ast.parse(path.read_text())) if isinstance(node, ast.ImportFrom)]
    return [(node.module, alias.name) for node in nodes for alias in node.names if node.module.startswith("changewise")]


def bound_in(path):
    body = ast.parse(path.read_text()).body
    names = [node.name for node in body if isinstance(node, (ast.FunctionDef, ast.ClassDef))]
    return names + [node.targets[0].id for node in body if isinstance(node, ast.Assign)]


class RulesTest(unittest.TestCase):

    def test_no_breach_is_found(self):
        for path in sources():
            with self.subTest(path.name):
                self.assertEqual(breaches(path.name, path.read_text()), [])

    def test_the_folder_holds_nothing_else(self):
        for path in PACKAGE.rglob("*"):
            if "__pycache__" not in path.parts and path.is_file():
                self.assertEqual(path.suffix, ".py", path)
                self.assertRegex(path.name, "^[a-z0-9_]+[.]py$")

    def test_imports_name_the_file_that_defines_the_name(self):
        for path in sources():
            for module, name in imported_by(path):
                with self.subTest(path.name, name=name):
                    self.assertIn(name, bound_in(TOP / (module.replace(".", "/") + ".py")))

    def test_no_two_files_import_from_each_other(self):
        reached = {f"changewise.{path.stem}": {module for module, _ in imported_by(path)} for path in sources()}
        for _ in reached:
            for name in reached:
                reached[name] = reached[name].union(*[reached[other] for other in reached[name]])
        for name in reached:
            self.assertNotIn(name, reached[name])

    def test_no_name_is_a_method_and_an_attribute(self):
        methods, attributes = set(), set()
        for path in sources():
            for node in ast.walk(ast.parse(path.read_text())):
                if isinstance(node, ast.ClassDef):
                    methods |= {each.name for each in node.body if isinstance(each, ast.FunctionDef)}
                if isinstance(node, ast.Attribute) and isinstance(node.ctx, ast.Store):
                    attributes.add(node.attr)
        self.assertIn("edit", methods)
        self.assertIn("given", attributes)
        self.assertEqual(methods & attributes, set())

    def test_breaches_are_found(self):
        for text in ("import math", "from os import path", "x = len([])", "x = 1\nx = 2", "def f(list):\n    pass",
                     "def f(a):\n    return a / 2", "def f():\n    return 1.5", "def f():\n    return '5%'",
                     "def f():\n    return id(1)", "def f(open):\n    pass", "x = '\u00e9'", "def f():\n" + "    f()\n" * 41,
                     "from changewise.kinds import is_kind as known", "def f(a, b):\n    return a is b", "# " + "-" * 120,
                     "class A:\n    def __del__(self):\n        pass", "def f():\n    return 'a type'", "f()", "class _A:\n    pass", "X = [[1], [2]]"):
            with self.subTest(text):
                self.assertNotEqual(breaches("file.py", text), [])


if __name__ == "__main__":
    unittest.main()
