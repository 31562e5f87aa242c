"""Holds the package's files against more of the rules of LANGUAGE.md: names, walks, sets, errors and keywords."""

import ast
import pathlib
import unittest

FOLDER = pathlib.Path(__file__).resolve().parent.parent / "macrohouse"

WALKS = {"zip", "enumerate", "reversed", "range"}
WALK_METHODS = {"items", "keys", "values"}
WALKERS = {"list", "tuple", "dict", "sorted", "sum", "any", "all", "enumerate", "zip", "min", "max"}
KEYWORDS = {
    "sorted": {"key", "reverse"}, "min": {"key", "default"}, "max": {"key", "default"}, "sum": {"start"},
    "enumerate": {"start"}, "zip": {"strict"},
}
PLAIN_CALLS = {"len", "range", "int", "str", "list", "tuple", "dict", "set", "isinstance", "any", "all", "reversed"}
PYTHONS = {name for value in ("", 0, [], {}, (), set(), b"") for name in dir(value)}
FREE_VALUES = set("count index title find get join lower upper split strip copy add".split())
CHANGES = {"append", "clear", "extend", "insert", "pop", "remove", "reverse", "setdefault", "update"}


def parents_in(tree):
    return {child: node for node in ast.walk(tree) for child in ast.iter_child_nodes(node)}


def is_call_of(node, names):
    return isinstance(node, ast.Call) and isinstance(node.func, ast.Name) and node.func.id in names


def bound_at_top(tree):
    names = [node.name for node in tree.body if isinstance(node, ast.ClassDef)]
    for node in tree.body:
        if isinstance(node, ast.ImportFrom):
            names += [name.asname or name.name for name in node.names]
    return set(names)


def faults_of_locals(tree):
    """L15: no parameter and no local is called like a class or an import of its file."""
    faults = []
    top = bound_at_top(tree)
    for node in ast.walk(tree):
        name = None
        if isinstance(node, ast.Name) and isinstance(node.ctx, ast.Store):
            name = node.id
        elif isinstance(node, ast.arg):
            name = node.arg
        elif isinstance(node, ast.ExceptHandler):
            name = node.name
        if name in top:
            faults.append(f"L15 {name} in line {node.lineno}")
    return faults


def faults_of_statements(tree):
    """L6 and L19: a value by itself is a call, and an error is made where it is raised."""
    faults = []
    for node in ast.walk(tree):
        if isinstance(node, ast.Expr) and node != tree.body[0] and not isinstance(node.value, ast.Call):
            faults.append(f"L6 line {node.lineno}")
        if isinstance(node, ast.Raise) and not isinstance(node.exc, ast.Call):
            faults.append(f"L19 line {node.lineno}")
        if isinstance(node, ast.ExceptHandler) and not isinstance(node.type, (ast.Name, ast.Tuple)):
            faults.append(f"L19 line {node.lineno}")
    return faults


def faults_of_walks(tree):
    """L23: what is to be walked on the spot is."""
    faults = []
    parents = parents_in(tree)
    for node in ast.walk(tree):
        method = isinstance(node, ast.Call) and isinstance(node.func, ast.Attribute) and node.func.attr in WALK_METHODS
        if not (is_call_of(node, WALKS) or method):
            continue
        parent = parents[node]
        walked = isinstance(parent, (ast.For, ast.comprehension)) and parent.iter == node
        if not (walked or is_call_of(parent, WALKERS)):
            faults.append(f"L23 line {node.lineno}")
    return faults


def faults_of_changes(tree):
    """L23: what a loop walks is not changed in it."""
    faults = []
    for loop in ast.walk(tree):
        if not isinstance(loop, ast.For):
            continue
        walked = {ast.dump(node) for node in ast.walk(loop.iter) if isinstance(node, (ast.Name, ast.Attribute))}
        for node in [inner for part in loop.body for inner in ast.walk(part)]:
            if isinstance(node, ast.Call) and isinstance(node.func, ast.Attribute) and node.func.attr in CHANGES:
                if ast.dump(node.func.value) in walked:
                    faults.append(f"L23 line {node.lineno}")
    return faults


def faults_of_sets(tree):
    """L24: a set is not kept and not walked."""
    faults = []
    parents = parents_in(tree)
    for node in ast.walk(tree):
        if is_call_of(node, {"set", "frozenset"}) or isinstance(node, ast.Set):
            parent = parents[node]
            if not (is_call_of(parent, {"len", "sorted"}) or isinstance(parent, (ast.Compare, ast.BinOp))):
                faults.append(f"L24 line {node.lineno}")
    return faults


def faults_of_keywords(tree):
    """L22: keywords at Python's own names."""
    faults = []
    for node in ast.walk(tree):
        if is_call_of(node, set(KEYWORDS) | PLAIN_CALLS):
            for keyword in node.keywords:
                if keyword.arg not in KEYWORDS.get(node.func.id, set()):
                    faults.append(f"L22 {keyword.arg} in line {node.lineno}")
    return faults


def faults_of_classes(tree):
    """L18: a class is called, is a base, or stands by `isinstance` and `except`."""
    faults = []
    parents = parents_in(tree)
    for node in ast.walk(tree):
        if isinstance(node, ast.Name) and node.id[0].isupper() and not node.id.isupper():
            parent = parents[node]
            if isinstance(parent, ast.Tuple):
                parent = parents[parent]
            called = isinstance(parent, ast.Call) and (parent.func == node or is_call_of(parent, {"isinstance"}))
            base = isinstance(parent, ast.Attribute) and parent.attr == "__init__"
            if not (called or base or isinstance(parent, (ast.ClassDef, ast.ExceptHandler))):
                faults.append(f"L18 {node.id} in line {node.lineno}")
    return faults


def methods_and_values(trees):
    methods = set()
    values = set()
    for node in [inner for tree in trees for inner in ast.walk(tree)]:
        if isinstance(node, ast.ClassDef):
            methods |= {part.name for part in node.body if isinstance(part, ast.FunctionDef)}
        if isinstance(node, ast.Attribute) and isinstance(node.ctx, ast.Store):
            values.add(node.attr)
    return methods, values


def faults_in(source):
    tree = ast.parse(source)
    found = []
    for check in (faults_of_locals, faults_of_statements, faults_of_walks, faults_of_changes, faults_of_sets,
                  faults_of_keywords, faults_of_classes):
        found += check(tree)
    return found


class NamesTest(unittest.TestCase):
    def setUp(self):
        self.sources = {path.stem: path.read_text(encoding="utf-8") for path in FOLDER.glob("*.py")}

    def test_each_file_keeps_to_the_rules(self):
        for name, source in self.sources.items():
            self.assertEqual(faults_in(source), [], name)

    def test_no_name_is_a_method_and_a_value(self):
        methods, values = methods_and_values([ast.parse(source) for source in self.sources.values()])
        self.assertEqual(methods & values, set())

    def test_methods_and_values_are_called_freely(self):
        methods, values = methods_and_values([ast.parse(source) for source in self.sources.values()])
        self.assertEqual(values & (PYTHONS - FREE_VALUES), set())
        self.assertEqual(methods & PYTHONS, {"__init__"})


class CheckerTest(unittest.TestCase):
    """That the checks above see what they look for."""

    def test_what_is_outside_is_found(self):
        for source in (
            "from macrohouse.a import b\ndef f(b):\n    pass", "class A:\n    pass\ndef f():\n    A = 1",
            "def f():\n    'words'", "def f(e):\n    raise e", "def f(x):\n    y = zip(x, x)",
            "def f(x):\n    return x.items()",
            "def f(xs):\n    for x in xs:\n        xs.append(x)", "def f(x):\n    y = set(x)",
            "def f(x):\n    for k in set(x):\n        f(k)", "def f(x):\n    return int(x, base=2)",
            "class Abc:\n    pass\ndef f():\n    return [Abc]", "class Abc:\n    pass\ndef f(x):\n    x.y = Abc",
        ):
            self.assertNotEqual(faults_in('"""Words."""\n' + source), [], source)

    def test_what_is_inside_is_let_be(self):
        source = '"""Words."""\n\n\ndef f(xs, ys):\n    zs = []\n    for x, y in zip(xs, ys):\n'
        source += "        zs.append(max([x, y], default=0))\n"
        source += "    if len(set(zs)) == len(zs):\n        raise ValueError('words')\n    return list(enumerate(zs))\n"
        self.assertEqual(faults_in(source), [])


if __name__ == "__main__":
    unittest.main()
