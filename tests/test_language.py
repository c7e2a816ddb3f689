"""Holds the package to those rules of LANGUAGE.md that can be seen row by row."""

import ast
import builtins
import re
import unittest
from pathlib import Path

PACKAGE = Path(__file__).resolve().parent.parent / "groupbooks"

STATEMENTS = (
    ast.Assign, ast.AugAssign, ast.If, ast.While, ast.For, ast.Return, ast.Break, ast.Continue, ast.Pass, ast.Raise,
    ast.Try, ast.ExceptHandler, ast.Expr, ast.FunctionDef, ast.ClassDef, ast.ImportFrom,
)
EXPRESSIONS = (
    ast.Constant, ast.List, ast.Tuple, ast.Dict, ast.Set, ast.BinOp, ast.UnaryOp, ast.BoolOp, ast.Compare, ast.IfExp,
    ast.Call, ast.Attribute, ast.Subscript, ast.Slice, ast.ListComp, ast.JoinedStr, ast.FormattedValue, ast.Name,
    ast.Lambda,
)
PARTS = (
    ast.Module, ast.arguments, ast.arg, ast.keyword, ast.alias, ast.comprehension, ast.expr_context, ast.boolop,
    ast.operator, ast.unaryop, ast.cmpop,
)
OWN_NAMES = set(
    "len range enumerate zip min max sum abs sorted reversed int str bool list tuple dict set frozenset isinstance ord "
    "repr any all divmod Exception ValueError TypeError KeyError IndexError LookupError ZeroDivisionError "
    "ArithmeticError OverflowError RuntimeError NotImplementedError AttributeError StopIteration".split())
UNDERSCORED = {"__init__", "__eq__", "__repr__", "__str__", "__len__"}
UNUSED = set("register mro elements open input version_info with_traceback add_note format format_map args".split())
METHODS = set(
    "append clear copy count endswith extend find get index insert isalnum isalpha isdigit islower isspace isupper items "
    "join keys ljust lower lstrip partition pop remove replace reverse rfind rjust rpartition rsplit rstrip setdefault "
    "split splitlines startswith strip update upper values zfill bit_length __init__".split())
WALKED = set("zip enumerate reversed range items keys values".split())
WALKERS = set("list tuple dict sorted sum any all enumerate zip min max join".split())
WORDS = re.compile(
    r"\b(type|typing|typing_extensions|enum|Enum|IntEnum|StrEnum|Flag|IntFlag|Generic|Protocol|ABC|ABCMeta|namedtuple|"
    r"NamedTuple|TypedDict|TYPE_CHECKING|abstractmethod)\b|dataclass|overload|contextmanager")


def faults_of_text(text):
    rows = text.split("\n")
    faults = []
    if len(rows) > 401:
        faults.append("L10 a file of more than 400 rows")
    for number, row in enumerate(rows, start=1):
        if len(row) > 120:
            faults.append(f"L10 row {number} is too long")
        if any(not " " <= sign <= "~" for sign in row):
            faults.append(f"L14 row {number} has a sign of another kind")
        if WORDS.search(row):
            faults.append(f"L17 row {number} has a word that stands nowhere")
    return faults


def names_bound(node):
    if isinstance(node, (ast.FunctionDef, ast.ClassDef)):
        return [node.name]
    if isinstance(node, ast.arg):
        return [node.arg]
    if isinstance(node, ast.Name) and isinstance(node.ctx, ast.Store):
        return [node.id]
    if isinstance(node, ast.Attribute):
        return [node.attr]
    return []


def faults_of_names(node):
    faults = []
    for name in names_bound(node):
        if name.startswith("_") and name not in UNDERSCORED:
            faults.append(f"L12 {name}")
        if name in UNUSED:
            faults.append(f"L17, L26 {name}")
        if hasattr(builtins, name) and name not in UNDERSCORED and not isinstance(node, ast.Attribute):
            faults.append(f"L15 {name}")
    if isinstance(node, ast.Name) and hasattr(builtins, node.id) and node.id not in OWN_NAMES:
        faults.append(f"L8 {node.id}")
    return faults


def faults_of_def(node):
    faults = []
    given = node.args
    if given.vararg or given.kwarg or given.kwonlyargs or given.posonlyargs or node.decorator_list:
        faults.append(f"L4 {node.name}")
    if node.end_lineno - node.lineno + 1 > 40:
        faults.append(f"L10 {node.name}")
    return faults


def faults_of_form(node):
    if not isinstance(node, STATEMENTS + EXPRESSIONS + PARTS):
        return ["L6, L7 " + node.__class__.__name__]
    if isinstance(node, (ast.Div, ast.MatMult)):
        return ["L7 " + node.__class__.__name__]
    if isinstance(node, ast.FunctionDef):
        return faults_of_def(node)
    if isinstance(node, ast.ClassDef) and (len(node.bases) > 1 or node.keywords or node.decorator_list):
        return ["L5 " + node.name]
    if isinstance(node, ast.ImportFrom) and (node.level or not node.module.startswith("groupbooks.")):
        return ["L2 an import from elsewhere"]
    if isinstance(node, (ast.For, ast.While)) and node.orelse:
        return ["L6 an else behind a loop"]
    if isinstance(node, ast.Assign) and len(node.targets) > 1:
        return ["L6 several targets"]
    if isinstance(node, ast.Try) and node.finalbody:
        return ["L6 finally"]
    if isinstance(node, ast.Constant) and isinstance(node.value, (float, complex, bytes)):
        return ["L7 " + repr(node.value)]
    if isinstance(node, ast.Constant) and isinstance(node.value, str) and "%" in node.value:
        return ["L27 a text with the sign for rests"]
    if isinstance(node, ast.ListComp) and (len(node.generators) > 1 or len(node.generators[0].ifs) > 1):
        return ["L7 a comprehension of several steps"]
    return []


def faults_of_is(node):
    if not isinstance(node, ast.Compare) or not any(isinstance(sign, (ast.Is, ast.IsNot)) for sign in node.ops):
        return []
    plain = [isinstance(side, ast.Constant) and side.value in (None, True, False) for side in node.comparators]
    return [] if all(plain) else [f"L20 row {node.lineno}"]


def called(node):
    """The name by which something is called, a method's too; None where nothing is."""
    if not isinstance(node, ast.Call):
        return None
    return node.func.attr if isinstance(node.func, ast.Attribute) else getattr(node.func, "id", None)


def faults_of_walks(node):
    """L23: what is only to be walked stands where it is walked; L24: a set stands where it is asked or sorted."""
    faults = []
    for name, field in ast.iter_fields(node):
        for place, part in enumerate(field if isinstance(field, list) else [field]):
            walked = isinstance(node, (ast.For, ast.comprehension)) and name == "iter"
            within = called(node) in WALKERS and name == "args" and (place == 0 or called(node) == "zip")
            if called(part) in WALKED and not walked and not within:
                faults.append(f"L23 {called(part)}")
            asked = isinstance(node, ast.Compare) or (called(node) in ("sorted", "len") and not node.keywords)
            if called(part) in ("set", "frozenset") and not asked:
                faults.append(f"L24 {called(part)}")
    return faults


def faults_of_locals(tree):
    """L15: no parameter and no local bears the name of a class or an import of its file."""
    taken = set()
    for node in tree.body:
        if isinstance(node, ast.ImportFrom):
            taken.update(part.asname or part.name for part in node.names)
        if isinstance(node, ast.ClassDef):
            taken.add(node.name)
    inner = [node for node in ast.walk(tree) if isinstance(node, (ast.arg, ast.Name))]
    return [f"L15 {name}" for node in inner for name in names_bound(node) if name in taken]


def faults_of_top(tree):
    faults = []
    for place, node in enumerate(tree.body):
        written = isinstance(node, ast.Expr) and isinstance(node.value, ast.Constant) and place == 0
        if not written and not isinstance(node, (ast.ImportFrom, ast.FunctionDef, ast.ClassDef, ast.Assign)):
            faults.append(f"L3 row {node.lineno}")
    return faults


def faults_of(text):
    tree = ast.parse(text)
    faults = faults_of_text(text) + faults_of_top(tree) + faults_of_locals(tree)
    for node in ast.walk(tree):
        faults.extend(faults_of_form(node))
        faults.extend(faults_of_names(node))
        faults.extend(faults_of_is(node))
        faults.extend(faults_of_walks(node))
    return faults


def drawn_from(tree):
    """L16: each file drawn from, with the names that are drawn."""
    rows = [node for node in tree.body if isinstance(node, ast.ImportFrom)]
    return {row.module.removeprefix("groupbooks."): [part.name for part in row.names] for row in rows}


def in_rounds(draws, name, path=()):
    return name in path or any(in_rounds(draws, other, path + (name,)) for other in draws.get(name, ()))


def methods_called(tree):
    return {node.func.attr for node in ast.walk(tree) if isinstance(node, ast.Call) and isinstance(node.func, ast.Attribute)}


def methods_and_values(trees):
    methods, values = set(), set()
    for tree in trees:
        for node in ast.walk(tree):
            if isinstance(node, ast.ClassDef):
                methods.update(part.name for part in node.body if isinstance(part, ast.FunctionDef))
            if isinstance(node, ast.Attribute) and isinstance(node.ctx, ast.Store):
                values.add(node.attr)
    return methods, values


class TestLanguage(unittest.TestCase):
    def files(self):
        return [path for path in sorted(PACKAGE.rglob("*")) if "__pycache__" not in path.parts]

    def test_only_plain_files(self):
        for path in self.files():
            self.assertTrue(path.is_file(), path)
            self.assertRegex(path.name, r"^([a-z][a-z0-9_]*|__init__)\.py$")

    def test_each_file_keeps_to_the_rules(self):
        for path in self.files():
            self.assertEqual(faults_of(path.read_text(encoding="utf-8")), [], path)

    def trees(self):
        return {path.stem: ast.parse(path.read_text(encoding="utf-8")) for path in self.files()}

    def test_no_name_is_a_method_and_a_value(self):
        methods, values = methods_and_values(self.trees().values())
        self.assertEqual(methods & values, set())

    def test_methods_called_are_the_package_s_own_or_listed(self):
        methods = methods_and_values(self.trees().values())[0]
        for name, tree in self.trees().items():
            self.assertEqual(methods_called(tree) - methods - METHODS, set(), name)

    def test_names_are_drawn_from_the_file_that_defines_them(self):
        trees = self.trees()
        for name, tree in trees.items():
            for other, names in drawn_from(tree).items():
                defined = {one for node in trees[other].body if not isinstance(node, ast.ImportFrom) for one in names_bound(node)}
                self.assertEqual(set(names) - defined, set(), (name, other))

    def test_no_files_draw_from_one_another(self):
        draws = {name: list(drawn_from(tree)) for name, tree in self.trees().items()}
        self.assertEqual([name for name in draws if in_rounds(draws, name)], [])
        self.assertTrue(in_rounds({"a": ["b"], "b": ["c"], "c": ["a"]}, "a"))

    def test_faults_are_seen(self):
        wrong = [
            "x = 1 / 2", "x = 1.5", "import os", "from os import path", "from . import errors", "x = y = 1",
            "def f(*a):\n    pass", "def f(id):\n    pass", "x = getattr", "x = {a: a for a in []}", "x = chr(3)",
            "def f():\n    with a:\n        pass", "class A(B, C):\n    pass", "f()", "x = '%'", "x = [1 for a in b for c in a]",
            "def f():\n" + "    pass\n" * 40, "# " + "x" * 120, "# a type", "x_ = _x = 1", "def f(a):\n    a.args = 1",
            "def f(a, b):\n    return a is b", "from groupbooks.errors import NoRow\ndef f(NoRow):\n    pass",
            "class A:\n    pass\ndef f():\n    A = 1",
            "def f(a):\n    b = zip(a, a)", "def f(a):\n    return a.items()", "def f(a):\n    return sorted(a, key=a.keys())",
            "def f(a):\n    b = set(a)", "def f(a):\n    for b in set(a):\n        pass", "def f(a):\n    return list(set(a))",
            "for a in b:\n    pass", "def f():\n    while a:\n        pass\n    else:\n        pass",
        ]
        for text in wrong:
            self.assertNotEqual(faults_of(text), [], text)


if __name__ == "__main__":
    unittest.main()
