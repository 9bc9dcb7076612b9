"""Those rules of ../shared/LANGUAGE.md that a look at the code alone can tell."""

import ast
import pathlib
import re
import unittest

PACKAGE = pathlib.Path(__file__).resolve().parent.parent / "breathrows"

BUILTINS = set(
    "len range enumerate zip min max sum abs sorted reversed int str bool list tuple dict set "
    "frozenset isinstance ord repr any all divmod iter next Exception ValueError TypeError KeyError IndexError "
    "LookupError ZeroDivisionError ArithmeticError OverflowError RuntimeError NotImplementedError AttributeError "
    "StopIteration NotImplemented property staticmethod classmethod super".split())
BARRED_NAMES = set(
    "register mro elements open input version_info with_traceback add_note attrgetter breakpoint builtins compile "
    "copyright credits delattr dir eval exec exit gc getattr globals hasattr help id importlib license locals "
    "methodcaller os quit setattr sys vars".split())
BARRED_WORDS = re.compile(
    r"\b(type|typing|typing_extensions|enum|Enum|IntEnum|StrEnum|Flag|IntFlag|Generic|Protocol|ABC|ABCMeta|"
    r"namedtuple|NamedTuple|TypedDict|TYPE_CHECKING|abstractmethod)\b|dataclass|overload|contextmanager")
BARRED_NODES = (
    ast.Global, ast.AsyncFunctionDef, ast.AsyncFor, ast.AsyncWith, ast.Await, ast.Import, ast.Div, ast.MatMult)
DOUBLE = set("__init__ __eq__ __repr__ __str__ __len__ __slots__ __all__ __version__ __name__".split())
TOP = (ast.FunctionDef, ast.ClassDef, ast.ImportFrom, ast.Assign, ast.AnnAssign)


def is_docstring(node):
    return isinstance(node, ast.Expr) and isinstance(node.value, ast.Constant) and isinstance(node.value.value, str)


def text_faults(text):
    lines = text.split("\n")
    if len(lines) > 401:
        yield "L10 file"
    if any(len(line) > 120 for line in lines):
        yield "L10 line"
    if any(sign != "\n" and not " " <= sign <= "~" for sign in text):
        yield "L14"
    if BARRED_WORDS.search(text):
        yield "L17 word"


def top_faults(tree):
    for at, node in enumerate(tree.body):
        if not isinstance(node, TOP) and not (at == 0 and is_docstring(node)):
            yield "L3"
    bound = [node.name for node in tree.body if isinstance(node, (ast.FunctionDef, ast.ClassDef))]
    for node in ast.walk(tree):
        if isinstance(node, ast.ImportFrom):
            bound += [alias.asname or alias.name for alias in node.names]
            if node.level or not node.module.startswith("breathrows.") or node not in tree.body:
                yield "L2"
    if len(bound) != len(set(bound)):
        yield "L15"


def names_of(node):
    """The names that the node itself binds or reads."""
    for field in ("id", "name", "arg", "attr", "asname"):
        name = getattr(node, field, None)
        if isinstance(name, str):
            yield name


def node_faults(node):
    if isinstance(node, BARRED_NODES):
        yield "L6 or L7"
    if isinstance(node, ast.Constant) and isinstance(node.value, (float, complex)):
        yield "L7 float"
    if isinstance(node, ast.Constant) and isinstance(node.value, str) and "%" in node.value:
        yield "L27"
    if isinstance(node, ast.FunctionDef) and node.end_lineno - node.lineno >= 40:
        yield "L10 function"
    if isinstance(node, ast.FunctionDef) and node.args.posonlyargs:
        yield "L4"
    if isinstance(node, ast.Compare) and any(isinstance(sign, (ast.Is, ast.IsNot)) for sign in node.ops):
        if not all(isinstance(side, ast.Constant) for side in node.comparators):
            yield "L20"
    for name in names_of(node):
        if name in BARRED_NAMES:
            yield "L17 name"
        if name.startswith("_") and name not in DOUBLE:
            yield "L12"


def unknown_names(tree):
    """Names that are read and bound nowhere in the file, nor builtins of L8."""
    bound = set(BUILTINS)
    for node in ast.walk(tree):
        if isinstance(node, (ast.FunctionDef, ast.ClassDef)):
            bound.add(node.name)
        elif isinstance(node, ast.arg):
            bound.add(node.arg)
        elif isinstance(node, ast.alias):
            bound.add(node.asname or node.name)
        elif isinstance(node, ast.ExceptHandler):
            bound.add(node.name)
        elif isinstance(node, ast.Name) and not isinstance(node.ctx, ast.Load):
            bound.add(node.id)
    return [node.id for node in ast.walk(tree) if isinstance(node, ast.Name) and node.id not in bound]


def shadowing_names(tree):
    """Parameters and variables that are called as a builtin is."""
    for node in ast.walk(tree):
        if isinstance(node, ast.arg) and node.arg in BUILTINS:
            yield node.arg
        if isinstance(node, ast.Name) and not isinstance(node.ctx, ast.Load) and node.id in BUILTINS:
            yield node.id


def faults(text):
    tree = ast.parse(text)
    told = list(text_faults(text)) + list(top_faults(tree))
    for node in ast.walk(tree):
        told += node_faults(node)
    told += ["L8 " + name for name in unknown_names(tree)]
    told += ["L15 " + name for name in shadowing_names(tree)]
    return told


class Language(unittest.TestCase):
    def test_each_file_keeps_to_it(self):
        for path in sorted(PACKAGE.glob("*.py")):
            with self.subTest(file=path.name):
                self.assertEqual(faults(path.read_text("utf-8")), [])

    def test_the_folder_holds_nothing_else(self):
        for path in PACKAGE.iterdir():
            if path.name != "__pycache__":
                self.assertRegex(path.name, r"\A([a-z][a-z0-9_]*|__init__)\.py\Z")

    def test_faults_are_found(self):
        wrong = [
            ("x = 1\nx = eval('2')\n", "L8 eval"), ("import os\n", "L6 or L7"), ("from os import path\n", "L2"),
            ("from .rows import bare\n", "L2"), ("print(1)\n", "L3"), ("def f(a, /):\n    return a\n", "L4"),
            ("def f(a):\n    return a / 2\n", "L6 or L7"), ("x = 1.5\n", "L7 float"), ("x = 'a%'\n", "L27"),
            ("def f(a):\n" + "    a = a\n" * 40, "L10 function"), ("x = 1\n" * 401, "L10 file"),
            ("x = '" + "a" * 120 + "'\n", "L10 line"), ("# a\tb\n", "L14"), ("# the type\n", "L17 word"),
            ("def f(a, b):\n    return a is b\n", "L20"), ("def f(id):\n    return 1\n", "L17 name"),
            ("def f(_a):\n    return 1\n", "L12"), ("def f(list):\n    return 1\n", "L15 list"),
            ("def f(a):\n    return 1\n\n\ndef f(a):\n    return 2\n", "L15"),
        ]
        for text, rule in wrong:
            with self.subTest(text=text):
                self.assertIn(rule, faults(text))


if __name__ == "__main__":
    unittest.main()
