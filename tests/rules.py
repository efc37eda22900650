"""Finds in a file of the package what breaks the rules of the language subset.

Not each rule of the subset is looked for, only what a look at the text or the tree can tell.
"""

import ast
import builtins
import re

BUILTINS = set(
    "len range enumerate zip min max sum abs sorted reversed int str bool bytes list tuple dict set frozenset "
    "isinstance ord repr any all divmod pow map iter next Exception ValueError TypeError KeyError IndexError "
    "LookupError ZeroDivisionError ArithmeticError OverflowError RuntimeError NotImplementedError AttributeError "
    "StopIteration NotImplemented property staticmethod classmethod super".split())
# A session that shows values binds "_" among the builtins.
PYTHONS_OWN = set(dir(builtins)) - {"_"}
METHODS = set(
    "append clear copy count endswith extend find get index insert isalnum isalpha isdigit islower isspace isupper "
    "items join keys ljust lower lstrip partition pop remove replace reverse rfind rjust rpartition rsplit rstrip "
    "setdefault split splitlines startswith strip update upper values zfill bit_length title capitalize swapcase "
    "casefold center expandtabs removeprefix removesuffix rindex isascii isdecimal isnumeric istitle isidentifier "
    "isprintable translate sort add discard".split())
NAMES_OUT = set("register mro elements open input law version_info with_traceback add_note".split())
WORDS_OUT = re.compile(
    r"\b(type|typing|typing_extensions|enum|Enum|IntEnum|StrEnum|Flag|IntFlag|Generic|Protocol|ABC|ABCMeta|namedtuple"
    r"|NamedTuple|TypedDict|TYPE_CHECKING|abstractmethod)\b|dataclass|overload|contextmanager")
STATEMENTS_OUT = (ast.Global, ast.AsyncFunctionDef, ast.AsyncFor, ast.AsyncWith, ast.Await)
LIBRARY = {"heapq", "math", "itertools", "collections"}


def breaches(path, text):
    """The rows "file:line: what" of all that is found in a file."""
    tree = ast.parse(text)
    found = layout_breaches(text) + module_breaches(tree) + shadow_breaches(tree)
    for node in ast.walk(tree):
        found += [(getattr(node, "lineno", 0), what) for what in node_breaches(node)]
    return [f"{path}:{line}: {what}" for line, what in sorted(found)]


def layout_breaches(text):
    lines = text.split("\n")
    found = [(len(lines), "L10 a long file")] if len(lines) > 400 else []
    for number, line in enumerate(lines, 1):
        if len(line) > 120:
            found.append((number, "L10 a long line"))
        if [sign for sign in line if not " " <= sign <= "~"]:
            found.append((number, "L14 a sign that is none of ours"))
        if re.search("_wall|_WallAttr", line):
            found.append((number, "L12 a barred word"))
    return found


def module_breaches(tree):
    found, bound = [], []
    for at, node in enumerate(tree.body):
        if isinstance(node, ast.ImportFrom):
            bound += [alias.asname or alias.name for alias in node.names]
            found += import_breaches(node)
        elif isinstance(node, (ast.FunctionDef, ast.ClassDef)):
            bound.append(node.name)
        elif isinstance(node, ast.Assign) and len(node.targets) == 1 and isinstance(node.targets[0], ast.Name):
            bound.append(node.targets[0].id)
            if [part for part in ast.walk(node.value) if isinstance(part, (ast.Call, ast.Lambda, ast.comprehension))]:
                found.append((node.lineno, "L3 no plain value"))
            if [part for part in ast.walk(node.value) if isinstance(part, (ast.List, ast.Dict)) and part is not node.value]:
                found.append((node.lineno, "L15 a list or dict within another value"))
        elif not (at == 0 and isinstance(node, ast.Expr) and isinstance(node.value, ast.Constant)):
            found.append((node.lineno, "L3 a statement at module level"))
    found += [(0, "L15 bound twice: " + name) for name in set(bound) if bound.count(name) > 1]
    return found


def import_breaches(node):
    first = (node.module or "").split(".")[0]
    if node.level or first not in LIBRARY | {"changewise", "__future__"}:
        return [(node.lineno, "L2 an import from elsewhere")]
    if first == "changewise" and [alias for alias in node.names if alias.asname or alias.name == "*"]:
        return [(node.lineno, "L2 an import that is not by its name")]
    return []


def shadow_breaches(tree):
    """Names of functions, classes, parameters and variables that mean something else already."""
    outer = {alias.name for node in tree.body if isinstance(node, ast.ImportFrom) for alias in node.names}
    outer |= {node.name for node in tree.body if isinstance(node, ast.ClassDef)}
    found = []
    for node in ast.walk(tree):
        name = node.arg if isinstance(node, ast.arg) else None
        if isinstance(node, ast.Name) and not isinstance(node.ctx, ast.Load):
            name = node.id
        if name in outer:
            found.append((node.lineno, "L15 a name of an import or a class: " + name))
        if isinstance(node, (ast.FunctionDef, ast.ClassDef)):
            name = node.name
        if name is not None and name in PYTHONS_OWN:
            found.append((node.lineno, "L15 a name of a builtin: " + name))
        if name in NAMES_OUT or name == "type":
            found.append((node.lineno, "L17 a barred name: " + name))
    return found


def node_breaches(node):
    if isinstance(node, STATEMENTS_OUT + (ast.Import,)):
        return ["L6 a statement that is not allowed"]
    if isinstance(node, ast.FunctionDef):
        return function_breaches(node)
    if isinstance(node, ast.ClassDef) and not node.name[0].isalpha():
        return ["L12 a class with no letter first: " + node.name]
    if isinstance(node, ast.Constant):
        return constant_breaches(node)
    if isinstance(node, ast.BinOp) and isinstance(node.op, (ast.Div, ast.MatMult)):
        return ["L7 an operator that is not allowed"]
    if isinstance(node, ast.Name) and node.id in PYTHONS_OWN and node.id not in BUILTINS:
        return ["L8 a builtin that is not allowed: " + node.id]
    if isinstance(node, ast.Call):
        return call_breaches(node)
    if isinstance(node, ast.Attribute) and node.attr in NAMES_OUT:
        return ["L17 a barred attribute: " + node.attr]
    if isinstance(node, ast.Compare):
        return identity_breaches(node)
    return []


def function_breaches(node):
    found = []
    if node.end_lineno - node.lineno + 1 > 40:
        found.append("L10 a long function: " + node.name)
    if [each for each in node.decorator_list if isinstance(each, ast.Call)]:
        found.append("L4 a decorator")
    if node.name.startswith("__") and node.name not in ("__init__", "__eq__", "__repr__", "__str__", "__len__"):
        found.append("L5 a method that is not allowed: " + node.name)
    return found


def constant_breaches(node):
    if isinstance(node.value, (float, complex)):
        return ["L7 a float"]
    if not isinstance(node.value, str):
        return []
    # A docstring may hold the words; one of several lines is surely such.
    if "\n" not in node.value and WORDS_OUT.search(node.value):
        return ["L17 a barred word"]
    if "%" in node.value or node.value.endswith(("._", ".__")):
        return ["L27 a string that is not allowed"]
    return []


def call_breaches(node):
    if isinstance(node.func, ast.Attribute) and node.func.attr in ("format", "mro", "encode", "decode", "hex"):
        return ["L25 a method that is not allowed: " + node.func.attr]
    if isinstance(node.func, ast.Attribute) and node.func.attr in METHODS and node.keywords:
        if node.func.attr != "sort":
            return ["L25 a keyword of a builtin's method"]
    return []


def identity_breaches(node):
    for sign, right in zip(node.ops, node.comparators):
        plain = isinstance(right, ast.Constant) and right.value in (None, True, False)
        if isinstance(sign, (ast.Is, ast.IsNot)) and not plain:
            return ["L20 is of what is neither None, True nor False"]
    return []
