"""Holds the package's files against what a test can see of the rules of LANGUAGE.md.

As only the package's own modules and a few of Python's own names may stand in it, the
package can reach no clock, no chance and no file."""

import ast
import builtins
import pathlib
import re
import unittest

FOLDER = pathlib.Path(__file__).resolve().parent.parent / "macrohouse"
PACKAGE = "macrohouse"

OWN_NAMES = set(
    "len range enumerate zip min max sum abs sorted reversed int str bool list tuple dict set frozenset isinstance "
    "ord repr any all divmod Exception ValueError TypeError KeyError IndexError LookupError ZeroDivisionError "
    "ArithmeticError OverflowError RuntimeError NotImplementedError AttributeError StopIteration".split()
)
METHODS = set(
    "append clear copy count endswith extend find get index insert isalnum isalpha isdigit islower isspace isupper "
    "items join keys ljust lower lstrip partition pop remove replace reverse rfind rjust rpartition rsplit rstrip "
    "setdefault split splitlines startswith strip update upper values zfill bit_length __init__".split()
)
DUNDERS = {"__init__", "__eq__", "__repr__", "__str__", "__len__"}
NODES = set(
    "Module FunctionDef ClassDef Lambda arguments arg Assign AugAssign If While For Return Break Continue Pass Raise "
    "Try ExceptHandler Expr ImportFrom alias Constant List Tuple Dict Set Name Attribute Subscript Slice Call keyword "
    "BinOp UnaryOp BoolOp Compare IfExp ListComp comprehension JoinedStr FormattedValue Load Store "
    "Add Sub Mult FloorDiv Mod Pow BitAnd BitOr BitXor LShift RShift Invert Not USub UAdd And Or "
    "Eq NotEq Lt LtE Gt GtE Is IsNot In NotIn".split()
)
OUT_NAMES = {"register", "mro", "elements", "open", "input", "version_info", "with_traceback", "add_note"}
OUT_WORDS = re.compile(
    r"\b(type|typing|typing_extensions|enum|Enum|IntEnum|StrEnum|Flag|IntFlag|Generic|Protocol|ABC|ABCMeta|namedtuple|"
    r"NamedTuple|TypedDict|TYPE_CHECKING|abstractmethod)\b|dataclass|overload|contextmanager"
)
OUT_FILES = {"test", "tests", "testing", "site", "conftest", "sitecustomize", "usercustomize"} | set(dir(builtins))


def faults_of_letters(source):
    """L10, L14, L17: what can be seen without knowing Python."""
    faults = []
    lines = source.split("\n")
    if len(lines) > 401:
        faults.append("L10 file of more than 400 lines")
    for number, line in enumerate(lines, start=1):
        if len(line) > 120:
            faults.append(f"L10 line {number} too long")
        if re.search(r"[^ -~]", line):
            faults.append(f"L14 line {number} has a sign that may not stand")
        if OUT_WORDS.search(line):
            faults.append(f"L17 line {number} has a word that may not stand")
    return faults


def is_plain(node):
    """L3: whether a value is written out."""
    if isinstance(node, ast.Dict):
        return all(is_plain(part) for part in node.keys + node.values)
    if isinstance(node, (ast.Tuple, ast.List)):
        return all(is_plain(part) for part in node.elts)
    if isinstance(node, ast.UnaryOp):
        return isinstance(node.op, ast.USub) and is_plain(node.operand)
    return isinstance(node, (ast.Constant, ast.Name))


def faults_of_top(tree):
    """L2, L3, L15, L16: what may stand at a file's top."""
    faults = []
    bound = []
    for number, node in enumerate(tree.body):
        if isinstance(node, ast.ImportFrom):
            if node.level != 0 or not (node.module or "").startswith(PACKAGE + "."):
                faults.append(f"L2 import in line {node.lineno}")
            bound += [name.asname or name.name for name in node.names]
        elif isinstance(node, (ast.FunctionDef, ast.ClassDef)):
            bound.append(node.name)
        elif isinstance(node, ast.Assign) and isinstance(node.targets[0], ast.Name) and is_plain(node.value):
            bound.append(node.targets[0].id)
        elif not (number == 0 and isinstance(node, ast.Expr) and isinstance(node.value, ast.Constant)):
            faults.append(f"L3 line {node.lineno} may not stand at the top")
    if len(bound) != len(set(bound)):
        faults.append("L15 a name is bound twice at the top")
    return faults


def faults_of_def(node):
    """L4, L10: the head and the length of a function."""
    faults = []
    if node.args.vararg or node.args.kwarg or node.args.kwonlyargs or node.args.posonlyargs or node.decorator_list:
        faults.append(f"L4 head of {node.name}")
    if node.end_lineno - node.lineno + 1 > 40:
        faults.append(f"L10 {node.name} has more than 40 lines")
    if not all_plain(node.name) and node.name not in DUNDERS:
        faults.append(f"L12 {node.name}")
    return faults


def faults_of_class(node):
    """L5: the head and the body of a class."""
    faults = []
    if node.decorator_list or node.keywords or len(node.bases) > 1 or not all_plain(node.name):
        faults.append(f"L5 head of {node.name}")
    if not all(isinstance(part, (ast.FunctionDef, ast.Pass)) for part in node.body):
        faults.append(f"L5 body of {node.name}")
    return faults


def all_plain(name):
    return re.fullmatch(r"[A-Za-z][A-Za-z0-9_]*", name) is not None


def faults_of_name(name, stores, line):
    """L8, L12, L15, L17: names and Python's own among them."""
    if not all_plain(name):
        return [f"L12 {name} in line {line}"]
    if name in OUT_NAMES:
        return [f"L17 {name} in line {line}"]
    if hasattr(builtins, name) and (stores or name not in OWN_NAMES):
        return [f"L8 {name} in line {line}"]
    return []


def faults_of_node(node, methods):
    """The rules that speak of one thing alone."""
    line = getattr(node, "lineno", 0)
    if type(node).__name__ not in NODES:
        return [f"L6 or L7 {type(node).__name__} in line {line}"]
    if isinstance(node, ast.FunctionDef):
        return faults_of_def(node)
    if isinstance(node, ast.ClassDef):
        return faults_of_class(node)
    if isinstance(node, ast.Name):
        return faults_of_name(node.id, isinstance(node.ctx, ast.Store), line)
    if isinstance(node, ast.arg):
        return faults_of_name(node.arg, True, line)
    if isinstance(node, ast.Call) and isinstance(node.func, ast.Attribute) and node.func.attr not in methods:
        return [f"L25 method {node.func.attr} in line {line}"]
    if isinstance(node, ast.Attribute) and node.attr in OUT_NAMES | {"format", "format_map"}:
        return [f"L17 {node.attr} in line {line}"]
    return faults_of_expression(node, line)


def faults_of_expression(node, line):
    """L6, L7, L20, L27: forms of statements and values."""
    if isinstance(node, ast.Assign) and (len(node.targets) != 1 or isinstance(node.targets[0], (ast.Tuple, ast.List))):
        return [f"L6 several targets in line {line}"]
    if isinstance(node, ast.FormattedValue):
        if not isinstance(node.value, ast.Name) or node.format_spec or node.conversion not in (-1, ord("r")):
            return [f"L7 braces in line {line}"]
    if isinstance(node, (ast.For, ast.While)) and node.orelse:
        return [f"L6 else behind a loop in line {line}"]
    if isinstance(node, ast.Try) and node.finalbody:
        return [f"L6 finally in line {line}"]
    if isinstance(node, ast.ListComp) and (len(node.generators) > 1 or len(node.generators[0].ifs) > 1):
        return [f"L7 comprehension in line {line}"]
    if isinstance(node, ast.Constant):
        return faults_of_constant(node.value, line)
    if isinstance(node, ast.Compare) and any(isinstance(op, (ast.Is, ast.IsNot)) for op in node.ops):
        if not (isinstance(node.comparators[0], ast.Constant) and node.comparators[0].value in (None, True, False)):
            return [f"L20 is in line {line}"]
    if isinstance(node, ast.BinOp) and isinstance(node.op, ast.Pow) and not isinstance(node.right, ast.Constant):
        return [f"L27 power in line {line}"]
    return []


def faults_of_constant(value, line):
    if isinstance(value, (float, complex, bytes)):
        return [f"L7 {value!r} in line {line}"]
    if isinstance(value, str) and "%" in value:
        return [f"L27 percent sign in line {line}"]
    return []


def methods_in(trees):
    found = set(METHODS)
    for tree in trees:
        for node in ast.walk(tree):
            if isinstance(node, ast.ClassDef):
                found |= {part.name for part in node.body if isinstance(part, ast.FunctionDef)}
    return found


def faults_in(source, methods=frozenset(METHODS)):
    tree = ast.parse(source)
    faults = faults_of_letters(source) + faults_of_top(tree)
    for node in ast.walk(tree):
        faults += faults_of_node(node, methods)
    return faults


def defined_in(tree):
    defined = {node.name for node in tree.body if isinstance(node, (ast.FunctionDef, ast.ClassDef))}
    return defined | {node.targets[0].id for node in tree.body if isinstance(node, ast.Assign)}


class LanguageTest(unittest.TestCase):
    def setUp(self):
        self.sources = {path.stem: path.read_text(encoding="utf-8") for path in FOLDER.glob("*.py")}
        self.trees = {name: ast.parse(source) for name, source in self.sources.items()}

    def test_files(self):
        self.assertIn("__init__", self.sources)
        for path in FOLDER.iterdir():
            if path.name == "__pycache__":
                continue
            self.assertEqual(path.suffix, ".py", path)
            self.assertTrue(path.stem == "__init__" or re.fullmatch(r"[a-z][a-z0-9_]*", path.stem), path)
            self.assertFalse(path.stem in OUT_FILES or path.stem.startswith("test_"), path)

    def test_each_file_keeps_to_the_rules(self):
        methods = methods_in(self.trees.values())
        for name, source in self.sources.items():
            self.assertEqual(faults_in(source, methods), [], name)

    def test_names_are_drawn_from_the_file_that_defines_them(self):
        for tree in self.trees.values():
            for node in ast.walk(tree):
                if isinstance(node, ast.ImportFrom):
                    source = self.trees[node.module.split(".")[1]]
                    self.assertLessEqual({name.name for name in node.names}, defined_in(source))

    def test_no_two_files_draw_from_one_another(self):
        drawn = {name: self.drawn_from(name) for name in self.trees}
        left = dict(drawn)
        while left:
            free = [name for name in left if not drawn[name] & set(left)]
            self.assertTrue(free, f"these draw from one another: {sorted(left)}")
            for name in free:
                del left[name]

    def drawn_from(self, name):
        found = [node for node in ast.walk(self.trees[name]) if isinstance(node, ast.ImportFrom)]
        return {node.module.split(".")[1] for node in found} | ({"__init__"} if found else set())


class CheckerTest(unittest.TestCase):
    """That the checks above see what they look for."""

    def test_what_is_outside_is_found(self):
        for source in (
            "import os", "from time import time", "from .errors import NoText", "x = 1\nx = 2", "print(1)",
            "def f(*a):\n    pass", "def f():\n    return open('x')", "def f(x):\n    return hash(x)",
            "def f(x):\n    return x / 2.5", "def f(x):\n    return {k for k in x}", "def f(x):\n    del x",
            "def f(list):\n    return list", "def f(x):\n    return x.sort()", "def f(x):\n    return x is x",
            "class A:\n    x = 1", "def f():\n" + "    pass\n" * 40, "x = 'a\tb'", "x = '%'", "# type",
            "def _f():\n    pass", "def f(n):\n    return 2 ** n", "def f(x):\n    return chr(x)", "x = 10 ** 60",
            "def f(x):\n    return f'{x.y}'", "def f(x):\n    return f'{x!s}'", "def f(x):\n    return f'{x:>3}'",
            "def f(x):\n    a, b = x",
        ):
            self.assertNotEqual(faults_in(source), [], source)

    def test_what_is_inside_is_let_be(self):
        source = '"""Words."""\n\nfrom macrohouse.errors import NoText\n\nX = (1, "a")\n\n\ndef f(x, y=0):\n'
        source += "    if x is None:\n        raise NoText(f'no {y}')\n    return [k + 1 for k in x if k > y]\n"
        self.assertEqual(faults_in(source), [])


if __name__ == "__main__":
    unittest.main()
