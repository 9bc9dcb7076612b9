"""Those rules of ../shared/LANGUAGE.md that a look at the code alone can tell."""

import ast
import builtins
import pathlib
import re
import unittest

PACKAGE = pathlib.Path(__file__).resolve().parent.parent / "breathrows"

BUILTINS = set(
    "len range enumerate zip min max sum abs sorted reversed int str bool list tuple dict set "
    "frozenset isinstance ord repr any all divmod iter next Exception ValueError TypeError KeyError IndexError "
    "LookupError ZeroDivisionError ArithmeticError OverflowError RuntimeError NotImplementedError AttributeError "
    "StopIteration NotImplemented property staticmethod classmethod super".split())
BARRED_NAMES = set(
    "register mro elements open input version_info with_traceback add_note attrgetter breakpoint builtins compile "
    "copyright credits delattr dir eval exec exit gc getattr globals hasattr help id importlib license locals "
    "methodcaller os quit setattr sys vars".split())
BARRED_WORDS = re.compile(
    r"\b(type|typing|typing_extensions|enum|Enum|IntEnum|StrEnum|Flag|IntFlag|Generic|Protocol|ABC|ABCMeta|"
    r"namedtuple|NamedTuple|TypedDict|TYPE_CHECKING|abstractmethod)\b|dataclass|overload|contextmanager")
BARRED_NODES = (
    ast.Global, ast.AsyncFunctionDef, ast.AsyncFor, ast.AsyncWith, ast.Await, ast.Import, ast.Div, ast.MatMult)
DOUBLE = set("__init__ __eq__ __repr__ __str__ __len__ __slots__ __all__ __version__ __name__".split())
METHODS = set(
    "append clear copy count endswith extend find get index insert isalnum isalpha isdigit islower isspace isupper "
    "items join keys ljust lower lstrip partition pop remove replace reverse rfind rjust rpartition rsplit rstrip "
    "setdefault split splitlines startswith strip update upper values zfill bit_length add discard".split())
TOP = (ast.FunctionDef, ast.ClassDef, ast.ImportFrom, ast.Assign, ast.AnnAssign)


def is_docstring(node):
    return isinstance(node, ast.Expr) and isinstance(node.value, ast.Constant) and isinstance(node.value.value, str)


def text_faults(text):
    lines = text.split("\n")
    if len(lines) > 401:
        yield "L10 file"
    if any(len(line) > 120 for line in lines):
        yield "L10 line"
    if any(sign != "\n" and not " " <= sign <= "~" for sign in text):
        yield "L14"
    if BARRED_WORDS.search(text):
        yield "L17 word"


def top_faults(tree):
    for at, node in enumerate(tree.body):
        if not isinstance(node, TOP) and not (at == 0 and is_docstring(node)):
            yield "L3"
    bound = [node.name for node in tree.body if isinstance(node, (ast.FunctionDef, ast.ClassDef))]
    for node in ast.walk(tree):
        if isinstance(node, ast.ImportFrom):
            bound += [alias.asname or alias.name for alias in node.names]
            if node.level or not node.module.startswith("breathrows.") or node not in tree.body:
                yield "L2"
    if len(bound) != len(set(bound)):
        yield "L15"


def names_of(node):
    """The names that the node itself binds or reads."""
    for field in ("id", "name", "arg", "attr", "asname"):
        name = getattr(node, field, None)
        if isinstance(name, str):
            yield name


def node_faults(node):
    if isinstance(node, BARRED_NODES):
        yield "L6 or L7"
    if isinstance(node, ast.Constant) and isinstance(node.value, (float, complex)):
        yield "L7 float"
    if isinstance(node, ast.Constant) and isinstance(node.value, str) and "%" in node.value:
        yield "L27"
    if isinstance(node, ast.FunctionDef) and node.end_lineno - node.lineno >= 40:
        yield "L10 function"
    if isinstance(node, ast.FunctionDef) and node.args.posonlyargs:
        yield "L4"
    if isinstance(node, ast.Compare) and any(isinstance(sign, (ast.Is, ast.IsNot)) for sign in node.ops):
        if not all(isinstance(side, ast.Constant) for side in node.comparators):
            yield "L20"
    for name in names_of(node):
        if name in BARRED_NAMES:
            yield "L17 name"
        if name.startswith("_") and name not in DOUBLE:
            yield "L12"


def unknown_names(tree):
    """Names that are read and bound nowhere in the file, nor builtins of L8."""
    bound = set(BUILTINS)
    for node in ast.walk(tree):
        if isinstance(node, (ast.FunctionDef, ast.ClassDef)):
            bound.add(node.name)
        elif isinstance(node, ast.arg):
            bound.add(node.arg)
        elif isinstance(node, ast.alias):
            bound.add(node.asname or node.name)
        elif isinstance(node, ast.ExceptHandler):
            bound.add(node.name)
        elif isinstance(node, ast.Name) and not isinstance(node.ctx, ast.Load):
            bound.add(node.id)
    return [node.id for node in ast.walk(tree) if isinstance(node, ast.Name) and node.id not in bound]


def shadowing_names(tree):
    """Parameters and variables that are called as a builtin, an import or a class of the file is."""
    taken = set(dir(builtins))
    for node in ast.walk(tree):
        if isinstance(node, ast.ImportFrom):
            taken.update(alias.asname or alias.name for alias in node.names)
        if isinstance(node, ast.ClassDef):
            taken.add(node.name)
    for node in ast.walk(tree):
        if isinstance(node, ast.arg) and node.arg in taken:
            yield node.arg
        if isinstance(node, ast.Name) and not isinstance(node.ctx, ast.Load) and node.id in taken:
            yield node.id


def called(node):
    """The name of the function that the node calls, if it's a plain call."""
    return node.func.id if isinstance(node, ast.Call) and isinstance(node.func, ast.Name) else None


def iteration_faults(tree):
    """What L7 and L23 say of what is gone through."""
    for node in ast.walk(tree):
        if called(node) in ("any", "all", "min", "max", "sum", "sorted"):
            if any(isinstance(inner, ast.GeneratorExp) for inner in node.args):
                yield "L7 generator"
        if isinstance(node, (ast.Assign, ast.Return)):
            if called(node.value) in ("zip", "enumerate", "reversed", "range"):
                yield "L23"


def methods_and_attributes(trees):
    """The names of all methods, and of all attributes that are assigned."""
    methods, attributes = set(), set()
    for node in [inner for tree in trees for inner in ast.walk(tree)]:
        if isinstance(node, ast.ClassDef):
            methods.update(inner.name for inner in node.body if isinstance(inner, ast.FunctionDef))
        if isinstance(node, ast.Attribute) and isinstance(node.ctx, ast.Store):
            attributes.add(node.attr)
    return methods, attributes


def foreign_attributes(trees):
    """Names read off something that are no own method or attribute, nor a method of L25."""
    methods, attributes = methods_and_attributes(trees)
    for node in [inner for tree in trees for inner in ast.walk(tree)]:
        if isinstance(node, ast.Attribute) and isinstance(node.ctx, ast.Load):
            if node.attr not in methods | attributes | METHODS:
                yield node.attr


def error_faults(tree, own):
    """What L19 says of raise and except: here nothing but own errors is raised or caught."""
    for node in ast.walk(tree):
        if isinstance(node, ast.Raise) and node.exc is not None:
            if called(node.exc) not in own:
                yield "L19 raise"
        if isinstance(node, ast.ExceptHandler):
            caught = node.type.elts if isinstance(node.type, ast.Tuple) else [node.type]
            if not all(isinstance(name, ast.Name) and name.id in own for name in caught):
                yield "L19 except"


def own_errors(tree):
    return {node.name for node in tree.body if isinstance(node, ast.ClassDef)}


def keyword_faults(tree):
    """What L22 says of keywords: here neither a builtin nor a method of L25 is called with one but key, default, start."""
    for node in ast.walk(tree):
        if isinstance(node, ast.Call) and node.keywords:
            name = called(node) or getattr(node.func, "attr", None)
            if name in BUILTINS | METHODS and not {word.arg for word in node.keywords} <= {"key", "default", "start"}:
                yield "L22"


def double_faults(tree):
    """What L28 says of the methods that show, count and compare: they assign nothing but lists of their own."""
    for node in ast.walk(tree):
        if isinstance(node, ast.FunctionDef) and node.name in ("__eq__", "__str__", "__repr__", "__len__"):
            for inner in ast.walk(node):
                if isinstance(inner, ast.Assign) and not isinstance(inner.value, (ast.List, ast.ListComp)):
                    yield "L28 assigned"
            last = node.body[-1]
            if node.name != "__eq__" and not isinstance(last, ast.Return):
                yield "L28 return"
            elif node.name == "__len__" and called(last.value) != "len":
                yield "L28 len"


def imported_files(tree):
    return [node.module.split(".")[1] for node in tree.body if isinstance(node, ast.ImportFrom)]


def reached_files(imports, file):
    """All files that the file imports from, directly or through others."""
    told, waiting = set(), list(imports[file])
    while waiting:
        other = waiting.pop()
        if other not in told:
            told.add(other)
            waiting += imports[other]
    return told


def faults(text):
    tree = ast.parse(text)
    told = list(text_faults(text)) + list(top_faults(tree))
    for node in ast.walk(tree):
        told += node_faults(node)
    told += ["L8 " + name for name in unknown_names(tree)]
    told += ["L15 " + name for name in shadowing_names(tree)]
    told += iteration_faults(tree)
    told += keyword_faults(tree)
    told += double_faults(tree)
    return told


class Language(unittest.TestCase):
    def test_each_file_keeps_to_it(self):
        for path in sorted(PACKAGE.glob("*.py")):
            with self.subTest(file=path.name):
                self.assertEqual(faults(path.read_text("utf-8")), [])

    def test_the_folder_holds_nothing_else(self):
        for path in PACKAGE.iterdir():
            if path.name != "__pycache__":
                self.assertRegex(path.name, r"\A([a-z][a-z0-9_]*|__init__)\.py\Z")

    def trees(self):
        return {path.stem: ast.parse(path.read_text("utf-8")) for path in PACKAGE.glob("*.py")}

    def test_no_name_is_a_method_and_an_attribute(self):
        methods, attributes = methods_and_attributes(self.trees().values())
        self.assertEqual(methods & attributes, set())
        self.assertIn("rooms", methods)
        self.assertIn("gap", attributes)

    def test_nothing_foreign_is_read_off_anything(self):
        self.assertEqual(list(foreign_attributes(self.trees().values())), [])
        self.assertEqual(list(foreign_attributes([ast.parse("def f(a):\n    return a.sort\n")])), ["sort"])

    def test_own_errors_alone_are_raised_and_caught(self):
        own = own_errors(self.trees()["errors"])
        self.assertEqual(len(own), 15)
        for name, tree in self.trees().items():
            with self.subTest(file=name):
                self.assertEqual(list(error_faults(tree, own)), [])
        for text, rule in [("def f(a):\n    raise ValueError(a)\n", "L19 raise"),
                           ("def f(a):\n    raise a\n", "L19 raise"),
                           ("def f(a):\n    try:\n        return a()\n    except Exception:\n        return 1\n",
                            "L19 except")]:
            self.assertEqual(list(error_faults(ast.parse(text), own)), [rule])

    def test_no_two_files_import_from_each_other(self):
        imports = {name: imported_files(tree) for name, tree in self.trees().items()}
        for name in imports:
            self.assertNotIn(name, reached_files(imports, name))

    def test_faults_are_found(self):
        wrong = [
            ("x = 1\nx = eval('2')\n", "L8 eval"), ("import os\n", "L6 or L7"), ("from os import path\n", "L2"),
            ("from .rows import bare\n", "L2"), ("print(1)\n", "L3"), ("def f(a, /):\n    return a\n", "L4"),
            ("def f(a):\n    return a / 2\n", "L6 or L7"), ("x = 1.5\n", "L7 float"), ("x = 'a%'\n", "L27"),
            ("def f(a):\n" + "    a = a\n" * 40, "L10 function"), ("x = 1\n" * 401, "L10 file"),
            ("x = '" + "a" * 120 + "'\n", "L10 line"), ("# a\tb\n", "L14"), ("# the type\n", "L17 word"),
            ("def f(a, b):\n    return a is b\n", "L20"), ("def f(id):\n    return 1\n", "L17 name"),
            ("def f(_a):\n    return 1\n", "L12"), ("def f(list):\n    return 1\n", "L15 list"),
            ("def f(a):\n    return 1\n\n\ndef f(a):\n    return 2\n", "L15"),
            ("def f(a):\n    hash = a\n    return a\n", "L15 hash"),
            ("from breathrows.rows import bare\n\n\ndef f(bare):\n    return bare\n", "L15 bare"),
            ("def f(a):\n    return all(b for b in a)\n", "L7 generator"),
            ("def f(a):\n    pairs = zip(a, a)\n    return list(pairs)\n", "L23"),
            ("def f(a):\n    return zip(a, a, strict=True)\n", "L22"), ("def f(a):\n    return a.split(sep=',')\n", "L22"),
            ("class A:\n    def __len__(self):\n        return self.a\n", "L28 len"),
            ("class A:\n    def __str__(self):\n        a = str(self.b)\n        return a\n", "L28 assigned"),
            ("class A:\n    def __len__(self):\n        len(self.a)\n        pass\n", "L28 return"),
        ]
        for text, rule in wrong:
            with self.subTest(text=text):
                self.assertIn(rule, faults(text))


if __name__ == "__main__":
    unittest.main()
