"""Holds the package to a part of LANGUAGE.md's rules.

Not looked at, and so to be read for by eye: L9, L11, L13, L21, L22, L24, and most of L15, L18, L19, L23 and L28.
"""

import ast
import builtins
import pathlib
import re
import unittest
from types import NoneType

PACKAGE = pathlib.Path(__file__).resolve().parent.parent / "floorways"

BUILTINS = set(
    "len range enumerate zip min max sum abs sorted reversed int str bool list tuple dict set frozenset isinstance ord "
    "repr any all divmod Exception ValueError TypeError KeyError IndexError LookupError ZeroDivisionError "
    "ArithmeticError OverflowError RuntimeError NotImplementedError AttributeError StopIteration".split())
METHODS = set(
    "append clear copy count endswith extend find get index insert isalnum isalpha isdigit islower isspace isupper "
    "items join keys ljust lower lstrip partition pop remove replace reverse rfind rjust rpartition rsplit rstrip "
    "setdefault split splitlines startswith strip update upper values zfill bit_length".split())
TWO_UNDERSCORES = {"__init__", "__eq__", "__repr__", "__str__", "__len__"}
VALUES_FREE = set("count index title find get join lower upper split strip copy add".split())
NEVER = set("register mro elements open input version_info with_traceback add_note format format_map args".split())
WORDS = re.compile(
    r"\b(type|typing|typing_extensions|enum|Enum|IntEnum|StrEnum|Flag|IntFlag|Generic|Protocol|ABC|ABCMeta|namedtuple"
    r"|NamedTuple|TypedDict|TYPE_CHECKING|abstractmethod)\b|dataclass|overload|contextmanager")
FILE_NAME = re.compile(r"([a-z][a-z0-9_]*|__init__|__main__)\.py")
PLAIN_NAME = re.compile(r"[A-Za-z][A-Za-z0-9_]*")
OWN_KINDS = (str, int, list, dict, set, bytes, tuple)
OWN_ATTRIBUTES = set().union(*[dir(kind) for kind in OWN_KINDS])
WALKED = set("zip enumerate reversed range".split())
WALKED_METHODS = set("items keys values".split())
WALKERS = set("list tuple dict sorted sum any all enumerate zip".split())

STATEMENTS = (
    ast.Assign, ast.AugAssign, ast.If, ast.While, ast.For, ast.Return, ast.Break, ast.Continue, ast.Pass, ast.Raise,
    ast.Try, ast.Expr, ast.FunctionDef, ast.ClassDef, ast.ImportFrom)
EXPRESSIONS = (
    ast.Constant, ast.List, ast.Tuple, ast.Dict, ast.Set, ast.BinOp, ast.UnaryOp, ast.BoolOp, ast.Compare, ast.IfExp,
    ast.Call, ast.Attribute, ast.Subscript, ast.Slice, ast.ListComp, ast.JoinedStr, ast.FormattedValue, ast.Name,
    ast.Lambda)


def breaches(name, source):
    """Pairs of a rule and a line, for one file's source."""
    found = text_breaches(name, source)
    tree = ast.parse(source)
    found += top_breaches(tree) + local_breaches(tree) + walk_breaches(tree)
    for node in ast.walk(tree):
        for check in (statement_breach, expression_breach, def_breach, name_breach):
            rule = check(node)
            if rule:
                found.append((rule, getattr(node, "lineno", 0)))
    return found


def text_breaches(name, source):
    found = []
    if not FILE_NAME.fullmatch(name):
        found.append(("L1", 0))
    lines = source.split("\n")
    if len(lines) > 401:
        found.append(("L10", 401))
    for number, line in enumerate(lines, start=1):
        if len(line) > 120:
            found.append(("L10", number))
        if not all(" " <= sign <= "~" for sign in line):
            found.append(("L14", number))
        if WORDS.search(line):
            found.append(("L17", number))
    return found


def top_breaches(tree):
    found = []
    bound = []
    for index, node in enumerate(tree.body):
        if isinstance(node, ast.Expr) and index == 0 and isinstance(node.value, ast.Constant):
            continue
        if isinstance(node, ast.Assign) and isinstance(node.targets[0], ast.Name) and is_plain(node.value):
            bound.append(node.targets[0].id)
        elif isinstance(node, (ast.FunctionDef, ast.ClassDef)):
            bound.append(node.name)
        elif isinstance(node, ast.ImportFrom):
            bound += [alias.asname or alias.name for alias in node.names]
        else:
            found.append(("L3", node.lineno))
    if len(bound) != len(set(bound)):
        found.append(("L15", 0))
    for node in ast.walk(tree):
        if isinstance(node, (ast.ImportFrom, ast.ClassDef)) and node not in tree.body:
            found.append(("L2", node.lineno))
        if isinstance(node, ast.arg) and node.arg in bound:
            found.append(("L15", node.lineno))
    return found


def local_breaches(tree):
    """Locals and parameters that are called like a class or an import of the file."""
    taken = {node.name for node in tree.body if isinstance(node, ast.ClassDef)}
    for node in tree.body:
        if isinstance(node, ast.ImportFrom):
            taken |= {alias.asname or alias.name for alias in node.names}
    stored = [node for node in ast.walk(tree) if isinstance(node, ast.Name) and isinstance(node.ctx, ast.Store)]
    found = [("L15", node.lineno) for node in stored if node.id in taken]
    return found + [("L15", node.lineno) for node in ast.walk(tree) if isinstance(node, ast.arg) and node.arg in taken]


def walk_breaches(tree):
    """Calls whose answer is to be walked on the spot, and isn't."""
    on_the_spot = [spot for node in ast.walk(tree) for spot in walked_spots(node)]
    return [
        ("L23", node.lineno) for node in ast.walk(tree)
        if is_walked(node) and not any(node is spot for spot in on_the_spot)
    ]


def is_walked(node):
    if not isinstance(node, ast.Call):
        return False
    if isinstance(node.func, ast.Attribute):
        return node.func.attr in WALKED_METHODS
    return isinstance(node.func, ast.Name) and node.func.id in WALKED


def walked_spots(node):
    if isinstance(node, (ast.For, ast.comprehension)):
        return [node.iter]
    if isinstance(node, ast.Call) and isinstance(node.func, ast.Name):
        alone = node.func.id in ("min", "max") and len(node.args) == 1
        return node.args[:1] if alone or node.func.id in WALKERS else []
    if isinstance(node, ast.Call) and isinstance(node.func, ast.Attribute) and node.func.attr == "join":
        return node.args if isinstance(node.func.value, ast.Constant) else []
    return []


def is_plain(value, depth=0):
    if isinstance(value, ast.UnaryOp) and isinstance(value.op, ast.USub):
        return isinstance(value.operand, ast.Constant)
    if isinstance(value, ast.Tuple):
        return all(is_plain(part, depth) for part in value.elts)
    if isinstance(value, ast.List) and depth == 0:
        return all(is_plain(part, 1) for part in value.elts)
    if isinstance(value, ast.Dict) and depth == 0:
        return all(is_plain(part, 1) for part in value.keys + value.values)
    return isinstance(value, (ast.Constant, ast.Name))


def statement_breach(node):
    if isinstance(node, ast.stmt) and not isinstance(node, STATEMENTS):
        return "L2" if isinstance(node, ast.Import) else "L6"
    if isinstance(node, (ast.For, ast.While)) and node.orelse:
        return "L6"
    if isinstance(node, ast.Assign) and len(node.targets) != 1:
        return "L6"
    if isinstance(node, ast.Try) and node.finalbody:
        return "L6"
    if isinstance(node, ast.ExceptHandler):
        return handler_breach(node)
    if isinstance(node, ast.Expr) and not isinstance(node.value, (ast.Call, ast.Constant)):
        return "L6"
    if isinstance(node, ast.ImportFrom):
        return import_breach(node)
    return None


def handler_breach(node):
    if node.type is None:
        return "L6"
    if isinstance(node.type, ast.Name) and node.type.id in ("Exception", "TypeError"):
        return "L19"
    return None


def import_breach(node):
    if node.level or not (node.module or "").startswith("floorways."):
        return "L2"
    if any(alias.name == "*" for alias in node.names):
        return "L2"
    return None


def expression_breach(node):
    if isinstance(node, ast.expr) and not isinstance(node, EXPRESSIONS):
        return "L7"
    if isinstance(node, ast.Constant) and isinstance(node.value, (float, complex, bytes)):
        return "L7"
    if isinstance(node, ast.Constant) and isinstance(node.value, str) and "%" in node.value:
        return "L27"
    if isinstance(node, (ast.Div, ast.MatMult)):
        return "L7"
    if isinstance(node, ast.ListComp) and (len(node.generators) != 1 or len(node.generators[0].ifs) > 1):
        return "L7"
    if isinstance(node, ast.FormattedValue) and not isinstance(node.value, ast.Name):
        return "L7"
    if isinstance(node, ast.Compare) and any(isinstance(op, (ast.Is, ast.IsNot)) for op in node.ops):
        return is_breach(node)
    if isinstance(node, ast.BinOp) and isinstance(node.op, ast.Pow):
        written = isinstance(node.right, ast.Constant) and 0 <= node.right.value <= 64
        return None if written else "L27"
    return None


def is_breach(node):
    sides = [node.left] + node.comparators
    single = any(isinstance(side, ast.Constant) and isinstance(side.value, (bool, NoneType)) for side in sides)
    return None if single else "L20"


def def_breach(node):
    if isinstance(node, ast.ClassDef):
        return class_breach(node)
    if not isinstance(node, (ast.FunctionDef, ast.Lambda)):
        return None
    given = node.args
    if given.vararg or given.kwarg or given.kwonlyargs or given.posonlyargs:
        return "L4"
    if isinstance(node, ast.Lambda):
        return None
    if node.decorator_list:
        return "L4"
    if node.end_lineno - node.lineno + 1 > 40:
        return "L10"
    if node.name == "__init__" and any(isinstance(part, ast.Return) and part.value for part in ast.walk(node)):
        return "L28"
    return None


def class_breach(node):
    if node.decorator_list or node.keywords or len(node.bases) > 1:
        return "L5"
    if not all(isinstance(part, (ast.FunctionDef, ast.Pass)) for part in node.body):
        return "L5"
    methods = [part.name for part in node.body if isinstance(part, ast.FunctionDef)]
    return None if len(methods) == len(set(methods)) else "L18"


def name_breach(node):
    if isinstance(node, ast.Name):
        if isinstance(node.ctx, ast.Store) and hasattr(builtins, node.id):
            return "L15"
        if hasattr(builtins, node.id) and node.id not in BUILTINS:
            return "L8"
        return plain_breach(node.id)
    if isinstance(node, ast.arg):
        return "L15" if hasattr(builtins, node.arg) else plain_breach(node.arg)
    if isinstance(node, ast.FunctionDef) and node.name not in TWO_UNDERSCORES:
        return plain_breach(node.name)
    if isinstance(node, ast.Attribute) and node.attr not in TWO_UNDERSCORES:
        return plain_breach(node.attr)
    return None


def plain_breach(name):
    if name in NEVER:
        return "L17"
    return None if PLAIN_NAME.fullmatch(name) else "L12"


def package_breaches(sources):
    """Pairs of a rule and a name, for what several files have together."""
    methods, values, called, tops = set(), set(), set(), {}
    for name, source in sources.items():
        tree = ast.parse(source)
        tops[name] = {node.name for node in tree.body if isinstance(node, (ast.FunctionDef, ast.ClassDef))}
        tops[name] |= {node.targets[0].id for node in tree.body if isinstance(node, ast.Assign)}
        for node in ast.walk(tree):
            if isinstance(node, ast.ClassDef):
                methods |= {part.name for part in node.body if isinstance(part, ast.FunctionDef)}
            if isinstance(node, ast.Attribute) and isinstance(node.ctx, ast.Store):
                values.add(node.attr)
            if isinstance(node, ast.Call) and isinstance(node.func, ast.Attribute):
                called.add(node.func.attr)
    found = [("L18", name) for name in sorted(methods & values)]
    found += [("L25", name) for name in sorted(called - methods - METHODS - TWO_UNDERSCORES)]
    found += [("L26", name) for name in sorted((values & OWN_ATTRIBUTES) - VALUES_FREE)]
    free = METHODS | TWO_UNDERSCORES | {"add", "discard"}
    found += [("L26", name) for name in sorted((methods & OWN_ATTRIBUTES) - free)]
    return found + drawn_breaches(sources, tops)


def drawn_breaches(sources, tops):
    found = []
    drawn = {}
    for name, source in sources.items():
        drawn[name] = set()
        for node in ast.parse(source).body:
            if isinstance(node, ast.ImportFrom):
                file = node.module.partition(".")[2] + ".py"
                drawn[name].add(file)
                found += [("L16", alias.name) for alias in node.names if alias.name not in tops.get(file, ())]
    for name in sorted(drawn):
        if name in reached(drawn, name):
            found.append(("L16", name))
    return found


def reached(drawn, name):
    seen = set()
    ahead = list(drawn[name])
    while ahead:
        file = ahead.pop()
        if file not in seen:
            seen.add(file)
            ahead += drawn.get(file, ())
    return seen


class TestPackage(unittest.TestCase):
    def sources(self):
        return {path.name: path.read_text(encoding="utf-8") for path in sorted(PACKAGE.glob("*.py"))}

    def test_nothing_else_lies_in_it(self):
        others = [path.name for path in PACKAGE.iterdir() if path.suffix != ".py" and path.name != "__pycache__"]
        self.assertEqual(others, [])
        self.assertIn("__init__.py", self.sources())

    def test_each_file(self):
        for name, source in self.sources().items():
            with self.subTest(name):
                self.assertEqual(breaches(name, source), [])

    def test_all_files_together(self):
        self.assertEqual(package_breaches(self.sources()), [])


class TestTheCheckItself(unittest.TestCase):
    def test_breaches_are_seen(self):
        pairs = (
            ("import os\n", "L2"), ("from os import path\n", "L2"), ("from .words import is_whole\n", "L2"),
            ("x = len([])\n", "L3"), ("def f(*a):\n    return a\n", "L4"), ("class A:\n    x = 1\n", "L5"),
            ("def f(a):\n    assert a\n", "L6"), ("def f(a):\n    return a / 2\n", "L7"),
            ("def f(a):\n    return {b for b in a}\n", "L7"), ("def f(a):\n    return getattr(a, 'b')\n", "L8"),
            ("def f(a):\n" + "    a = 1\n" * 40, "L10"), ("def _f(a):\n    return a\n", "L12"),
            ("from floorways.b import g\n\n\ndef f(a):\n    for g in a:\n        pass\n", "L15"),
            ("from floorways.b import g\n\n\ndef f(g):\n    return g\n", "L15"),
            ("def f(a):\n    b = enumerate(a)\n    return list(b)\n", "L23"),
            ("def f(a):\n    for b in reversed(range(a)):\n        pass\n", "L23"),
            ("def f(a):\n    return a.items()\n", "L23"),
            ("# caf\u00e9\n", "L14"), ("a = 1\na = 2\n", "L15"), ("def f(id):\n    return id\n", "L15"),
            ("# its type\n", "L17"), ("def f(a, b):\n    return a is b\n", "L20"),
            ("def f(n):\n    return 2 ** n\n", "L27"), ("a = '%d'\n", "L27"),
        )
        for source, rule in pairs:
            with self.subTest(source):
                self.assertIn(rule, [found for found, line in breaches("some.py", source)])

    def test_breaches_of_several_files_are_seen(self):
        method = "class A:\n    def thing(self):\n        return 1\n"
        value = "class B:\n    def __init__(self):\n        self.thing = 1\n"
        self.assertIn(("L18", "thing"), package_breaches({"a.py": method, "b.py": value}))
        self.assertIn(("L25", "sort"), package_breaches({"a.py": "def f(a):\n    a.sort()\n"}))
        one = "from floorways.b import g\n\n\ndef f():\n    return g()\n"
        other = "from floorways.a import f\n\n\ndef g():\n    return f()\n"
        self.assertIn(("L16", "a.py"), package_breaches({"a.py": one, "b.py": other}))


if __name__ == "__main__":
    unittest.main()
