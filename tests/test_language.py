"""The package keeps to LANGUAGE.md, as far as a walk through its files can see."""

import ast
import builtins
import pathlib
import re
import unittest

PACKAGE = pathlib.Path(__file__).resolve().parent.parent / "modehand"

STATEMENTS = (
    ast.Assign, ast.AugAssign, ast.AnnAssign, ast.If, ast.While, ast.For, ast.Return, ast.Break,
    ast.Continue, ast.Pass, ast.Raise, ast.Try, ast.Expr, ast.FunctionDef, ast.ClassDef, ast.ImportFrom,
)
EXPRESSIONS = (
    ast.Constant, ast.List, ast.Tuple, ast.Dict, ast.Set, ast.BinOp, ast.UnaryOp, ast.BoolOp, ast.Compare,
    ast.IfExp, ast.Call, ast.Attribute, ast.Subscript, ast.Slice, ast.ListComp, ast.JoinedStr,
    ast.FormattedValue, ast.Name, ast.Lambda,
)
PLAIN = (ast.Constant, ast.List, ast.Tuple, ast.Dict, ast.Name, ast.UnaryOp, ast.USub, ast.expr_context)
TOP = (ast.ImportFrom, ast.FunctionDef, ast.ClassDef, ast.Assign)
OWN_NAMES = """len range enumerate zip min max sum abs sorted reversed int str bool list tuple dict set frozenset
    isinstance ord repr any all divmod Exception ValueError TypeError KeyError IndexError LookupError
    ZeroDivisionError ArithmeticError OverflowError RuntimeError NotImplementedError AttributeError
    StopIteration""".split()
METHODS = """append clear copy count endswith extend find get index insert isalnum isalpha isdigit islower isspace
    isupper items join keys ljust lower lstrip partition pop remove replace reverse rfind rjust rpartition rsplit
    rstrip setdefault split splitlines startswith strip update upper values zfill bit_length add discard""".split()
PYTHONS_METHODS = {name for kind in (str, int, list, tuple, dict, set, bytes) for name in vars(kind)}
DUNDERS = ("__init__", "__eq__", "__repr__", "__str__", "__len__")
WORDS_OUT = """type typing typing_extensions enum Enum IntEnum StrEnum Flag IntFlag Generic Protocol ABC ABCMeta
    namedtuple NamedTuple TypedDict TYPE_CHECKING abstractmethod""".split()
PIECES_OUT = ("dataclass", "overload", "contextmanager")
WALKED = ("zip", "enumerate", "reversed", "range")
WALKED_METHODS = ("items", "keys", "values")
WALKERS = ("list", "tuple", "dict", "sorted", "sum", "any", "all", "enumerate", "zip", "min", "max")
CHANGES = ("append", "clear", "extend", "insert", "pop", "remove", "reverse", "setdefault", "update")
VALUES = "count index title find get join lower upper split strip copy add".split()
NAMES_OUT = ("register", "mro", "elements", "open", "input", "version_info", "with_traceback", "add_note", "format")


def faults(source):
    """The rules that a file breaks, by itself."""
    tree = ast.parse(source)
    told = sign_faults(source) + top_faults(tree)
    docstring = tree.body[0] if tree.body else None
    for node in ast.walk(tree):
        if node is docstring and isinstance(node, ast.Expr):
            continue
        told += [f"line {getattr(node, 'lineno', 0)}: {fault}" for fault in node_faults(node)]
    return told + name_faults(tree) + kept_faults(tree) + walk_faults(tree) + escape_faults(source)


def sign_faults(source):
    told = []
    rows = source.split("\n")
    if len(rows) - 1 > 400:
        told.append("L10: more than 400 lines")
    for number, row in enumerate(rows, start=1):
        if len(row) > 120:
            told.append(f"line {number}: L10: more than 120 characters")
        if not all(" " <= sign <= "~" for sign in row):
            told.append(f"line {number}: L14: a sign that is none of ASCII's plain ones")
    words = re.findall(r"\w+", source)
    told += [f"L17: the word {word}" for word in WORDS_OUT if word in words]
    return told + [f"L17: the piece {piece}" for piece in PIECES_OUT if piece in source]


def top_faults(tree):
    told = []
    for number, node in enumerate(tree.body):
        docstring = number == 0 and isinstance(node, ast.Expr) and isinstance(node.value, ast.Constant)
        if not docstring and not isinstance(node, TOP):
            told.append(f"line {node.lineno}: L3: not for a file's top")
    return told


def node_faults(node):
    if isinstance(node, ast.stmt) and not isinstance(node, STATEMENTS):
        return ["L6: a statement that is not listed"]
    if isinstance(node, ast.expr) and not isinstance(node, EXPRESSIONS):
        return ["L7: an expression that is not listed"]
    ask = ASKED.get(node.__class__)
    return [] if ask is None else [rule for rule, broken in ask(node) if broken]


def function_faults(node):
    plain = not (node.args.vararg or node.args.kwarg or node.args.kwonlyargs or node.args.posonlyargs)
    return [
        ("L4: plain parameters", not plain),
        ("L4: a decorator", node.decorator_list),
        ("L10: more than 40 lines", node.end_lineno - node.lineno >= 40),
        ("L5: a method with two underscores", node.name.startswith("__") and node.name not in DUNDERS),
    ]


def class_faults(node):
    return [
        ("L5: more than one base", len(node.bases) > 1 or node.keywords),
        ("L5: a decorator", node.decorator_list),
        ("L5: not a method", not all(isinstance(one, (ast.FunctionDef, ast.Pass)) for one in node.body)),
    ]


def import_faults(node):
    return [
        ("L2: the package's own modules alone", node.level or not node.module.startswith("modehand.")),
        ("L2: names one by one", any(alias.name == "*" for alias in node.names)),
    ]


def call_faults(node):
    wrong = isinstance(node.func, ast.Attribute) and node.func.attr in PYTHONS_METHODS
    return [
        ("L25: a method that is not listed", wrong and node.func.attr not in METHODS + list(DUNDERS)),
        ("L7: a star", any(keyword.arg is None for keyword in node.keywords)),
    ]


def compare_faults(node):
    beside = [node.left] + node.comparators
    plain = any(isinstance(one, ast.Constant) and isinstance(one.value, (bool, type(None))) for one in beside)
    is_asked = any(isinstance(op, (ast.Is, ast.IsNot)) for op in node.ops)
    return [("L20: is beside None, True and False alone", is_asked and not plain)]


def try_faults(node):
    named = all(handler.type is not None for handler in node.handlers)
    return [("L6: finally", node.finalbody), ("L6: except of named classes", not named)]


def constant_faults(node):
    return [
        ("L7: neither float nor bytes", isinstance(node.value, (float, bytes, complex))),
        ("L27: the sign % within a text", isinstance(node.value, str) and "%" in node.value),
    ]


def comprehension_faults(node):
    one = node.generators[0]
    return [("L7: one for and at most one if", len(node.generators) > 1 or len(one.ifs) > 1)]


ASKED = {
    ast.FunctionDef: function_faults, ast.ClassDef: class_faults, ast.ImportFrom: import_faults,
    ast.Call: call_faults, ast.Compare: compare_faults, ast.Try: try_faults, ast.Constant: constant_faults,
    ast.ListComp: comprehension_faults,
    ast.Expr: lambda node: [("L6: a call by itself", not isinstance(node.value, ast.Call))],
    ast.Assign: lambda node: [("L6: one target", len(node.targets) > 1 or isinstance(node.targets[0], ast.Tuple))],
    ast.BinOp: lambda node: [("L7: no /", isinstance(node.op, ast.Div))],
    ast.FormattedValue: lambda node: [("L7: plain names in braces", not isinstance(node.value, ast.Name))],
    ast.For: lambda node: [("L6: else behind a loop", node.orelse)],
    ast.While: lambda node: [("L6: else behind a loop", node.orelse)],
}


def bound_names(tree):
    """Names that the file binds, with their lines."""
    for node in ast.walk(tree):
        if isinstance(node, (ast.FunctionDef, ast.ClassDef)):
            yield node.name, node.lineno
        if isinstance(node, ast.arg):
            yield node.arg, node.lineno
        if isinstance(node, ast.alias):
            yield node.asname or node.name, node.lineno
        if isinstance(node, ast.Name) and isinstance(node.ctx, ast.Store):
            yield node.id, node.lineno
        if isinstance(node, ast.Attribute):
            yield node.attr, node.lineno


def name_faults(tree):
    told = []
    bound = list(bound_names(tree))
    known = [name for name, line in bound] + OWN_NAMES
    for name, line in bound:
        if name.startswith("_") and name not in DUNDERS:
            told.append(f"line {line}: L12: {name} begins with an underscore")
        if name in NAMES_OUT:
            told.append(f"line {line}: L17: the name {name}")
    for node in ast.walk(tree):
        if isinstance(node, ast.Name) and isinstance(node.ctx, ast.Load) and node.id not in known:
            told.append(f"line {node.lineno}: L8: the name {node.id}")
        if isinstance(node, (ast.arg, ast.Name)) and not isinstance(getattr(node, "ctx", None), ast.Load):
            name = node.arg if isinstance(node, ast.arg) else node.id
            if name in dir(builtins):
                told.append(f"line {node.lineno}: L15: {name} is a name of Python's own")
    return told


def top_values(tree):
    """Each name that the file's top gives a value, with this value."""
    return [(node.targets[0].id, node.value) for node in tree.body if isinstance(node, ast.Assign)]


def kept_faults(tree):
    """Rules on what stands at a file's top: bound once, flat, only read, and no local called like it."""
    told = []
    defined = [node.name for node in tree.body if isinstance(node, (ast.FunctionDef, ast.ClassDef))]
    classes = [node.name for node in tree.body if isinstance(node, ast.ClassDef)]
    drawn = [alias.name for node in tree.body if isinstance(node, ast.ImportFrom) for alias in node.names]
    bound = defined + drawn + [name for name, value in top_values(tree)]
    told += [f"L15: {name} is bound more than once" for name in set(bound) if bound.count(name) > 1]
    for name, value in top_values(tree):
        within = [node for node in ast.walk(value) if node is not value]
        names = [node.id for node in ast.walk(value) if isinstance(node, ast.Name)]
        if not all(isinstance(node, PLAIN) for node in ast.walk(value)) or not set(names) <= set(defined):
            told.append(f"L3: {name} is given no plain value")
        if isinstance(value, (ast.List, ast.Dict)) and any(isinstance(node, (ast.List, ast.Dict)) for node in within):
            told.append(f"L15: {name} holds a list or a dict")
    for local in [node for function in ast.walk(tree) if isinstance(function, ast.FunctionDef) for node in
                  ast.walk(function)]:
        name = local.arg if isinstance(local, ast.arg) else getattr(local, "id", None)
        stored = isinstance(local, ast.arg) or isinstance(getattr(local, "ctx", None), ast.Store)
        if stored and name in drawn + classes:
            told.append(f"line {local.lineno}: L15: {name} is called like an import or a class")
    return told + use_faults(tree)


def use_faults(tree):
    """A list or dict of a file's top is read by an index, a walk, in, get and their like alone."""
    told = []
    kept = [name for name, value in top_values(tree) if isinstance(value, (ast.List, ast.Dict))]
    right = set()
    for node in ast.walk(tree):
        if isinstance(node, ast.Subscript) and isinstance(node.ctx, ast.Load):
            right.add(node.value)
        if isinstance(node, ast.Compare):
            right.update(node.comparators)
        if isinstance(node, (ast.For, ast.comprehension)):
            right.add(node.iter)
        if isinstance(node, ast.Call) and isinstance(node.func, ast.Name) and node.func.id in OWN_NAMES:
            right.update(node.args)
        if isinstance(node, ast.Call) and isinstance(node.func, ast.Attribute) and node.func.attr not in CHANGES:
            right.add(node.func.value)
    for node in ast.walk(tree):
        if isinstance(node, ast.Name) and node.id in kept and isinstance(node.ctx, ast.Load) and node not in right:
            told.append(f"line {node.lineno}: L15: {node.id} is not only read")
    return told


def is_walk(node):
    if not isinstance(node, ast.Call):
        return False
    if isinstance(node.func, ast.Name):
        return node.func.id in WALKED
    return isinstance(node.func, ast.Attribute) and node.func.attr in WALKED_METHODS


def walk_faults(tree):
    right = set()
    called = set()
    for node in ast.walk(tree):
        if isinstance(node, (ast.For, ast.comprehension)):
            right.add(node.iter)
        if isinstance(node, ast.Call):
            called.add(node.func)
            walker = isinstance(node.func, ast.Name) and node.func.id in WALKERS
            joined = isinstance(node.func, ast.Attribute) and node.func.attr == "join"
            right.update(node.args if walker or joined else [])
    told = []
    for node in ast.walk(tree):
        if is_walk(node) and node not in right:
            told.append(f"line {node.lineno}: L23: not walked on the spot")
        if isinstance(node, ast.Name) and node.id in WALKED + ("len", "sorted") and node not in called:
            told.append(f"line {node.lineno}: L22: {node.id} is not called")
    return told


def escape_faults(source):
    rows = re.findall(r"\\(.)", source, re.DOTALL)
    return [f"L27: the escape {sign!r}" for sign in rows if sign not in "nt\\'\""]


def methods_of(tree):
    classes = [node for node in ast.walk(tree) if isinstance(node, ast.ClassDef)]
    return [node.name for one in classes for node in one.body if isinstance(node, ast.FunctionDef)]


def values_of(tree):
    """The names under which objects keep something."""
    return [node.attr for node in ast.walk(tree) if isinstance(node, ast.Attribute) and isinstance(node.ctx, ast.Store)]


def value_faults(trees):
    """Rules on the names of methods and values, over all files."""
    methods = [name for tree in trees for name in methods_of(tree)]
    values = [name for tree in trees for name in values_of(tree)]
    told = [f"L18: {name} is a method and a value" for name in set(values) & set(methods)]
    told += [f"L26: the value {name}" for name in values if name in PYTHONS_METHODS and name not in VALUES]
    free = METHODS + list(DUNDERS)
    return told + [f"L26: the method {name}" for name in methods if name in PYTHONS_METHODS and name not in free]


def drawn_from(tree):
    return [(node.module, alias.name) for node in tree.body if isinstance(node, ast.ImportFrom) for alias in node.names]


class Language(unittest.TestCase):
    def trees(self):
        return {f"modehand.{path.stem}": ast.parse(path.read_text()) for path in sorted(PACKAGE.glob("*.py"))}

    def test_only_files_of_plain_names(self):
        for path in PACKAGE.iterdir():
            if path.name != "__pycache__":
                self.assertRegex(path.name, r"^(__init__|__main__|[a-z][a-z0-9_]*)\.py$")
                self.assertNotRegex(path.name, r"^(tests?|testing|test_.*|site|conftest)\.py$")
                self.assertNotIn(path.stem, dir(builtins))

    def test_no_file_breaks_a_rule(self):
        for path in sorted(PACKAGE.glob("*.py")):
            with self.subTest(path.name):
                self.assertEqual(faults(path.read_text()), [])

    def test_no_name_of_methods_and_values_breaks_a_rule(self):
        self.assertEqual(value_faults(list(self.trees().values())), [])

    def test_broken_rules_on_methods_and_values_are_seen(self):
        for rule, source in (
            ("L18", "class One:\n    def __init__(self):\n        self.many = 1\n"),
            ("L26", "class One:\n    def __init__(self):\n        self.items = 1\n"),
            ("L26", "class One:\n    def title(self):\n        return 1\n"),
        ):
            with self.subTest(source):
                other = "class Other:\n    def many(self):\n        return 1\n"
                self.assertIn(rule + ":", " ".join(value_faults([ast.parse(source), ast.parse(other)])))

    def test_names_come_from_the_file_that_defines_them(self):
        trees = self.trees()
        for tree in trees.values():
            for module, name in drawn_from(tree):
                defined = [getattr(node, "name", None) for node in trees[module].body]
                given = [node.targets[0].id for node in trees[module].body if isinstance(node, ast.Assign)]
                self.assertIn(name, defined + given)

    def test_no_two_files_draw_from_one_another(self):
        drawn = {name: {module for module, alias in drawn_from(tree)} for name, tree in self.trees().items()}
        while drawn:
            free = [name for name in drawn if not drawn[name] & set(drawn)]
            self.assertTrue(free, drawn)
            for name in free:
                drawn.pop(name)

    def test_broken_rules_are_seen(self):
        for rule, source in (
            ("L6", "import os\n"), ("L2", "from sys import path\n"), ("L2", "from modehand.rows import *\n"),
            ("L3", "print\n"), ("L4", "def asked(*many):\n    return 1\n"), ("L5", "class One:\n    number = 1\n"),
            ("L6", "def asked():\n    assert True\n"), ("L6", "def asked(one):\n    low, high = one\n"),
            ("L6", "def asked():\n    'words'\n"), ("L7", "HALF = 0.5\n"), ("L7", "HALF = 1 / 2\n"),
            ("L7", "def asked(many):\n    return {one for one in many}\n"),
            ("L8", "def asked(one):\n    return hash(one)\n"),
            ("L10", "def asked():\n" + "    asked()\n" * 40), ("L10", "TEXT = '" + "a" * 120 + "'\n"),
            ("L12", "def _asked():\n    return 1\n"), ("L14", "TEXT = '\u00e4'\n"), ("L14", "TEXT = 1  #\ttab\n"),
            ("L15", "def asked(next):\n    return next\n"), ("L17", "# of this type\n"),
            ("L20", "def asked(one):\n    return one is one + 1\n"),
            ("L25", "def asked(one):\n    return one.title()\n"),
            ("L27", "TEXT = '%'\n"), ("L27", "TEXT = '\\x41'\n"),
            ("L3", "ONE = 1\nTWO = ONE + 1\n"), ("L3", "ONE = 1\nMANY = [ONE]\n"), ("L3", "ONE = len('a')\n"),
            ("L15", "ONE = 1\nONE = 2\n"), ("L15", "MANY = [1, [2]]\n"), ("L15", "MANY = {1: {2: 3}}\n"),
            ("L15", "from modehand.rows import row_of\ndef asked(row_of):\n    return row_of\n"),
            ("L15", "class One:\n    pass\ndef asked():\n    One = 1\n    return One\n"),
            ("L15", "MANY = [1]\ndef asked():\n    return MANY\n"),
            ("L15", "MANY = [1]\ndef asked():\n    MANY.append(2)\n"),
            ("L15", "MANY = [1]\ndef asked():\n    MANY[0] = 2\n"),
            ("L22", "def asked(many):\n    tell = len\n    return tell(many)\n"),
            ("L23", "def asked(many):\n    rows = range(3)\n    return [row for row in rows]\n"),
            ("L23", "def asked(many):\n    return many.items()\n"),
        ):
            with self.subTest(source):
                self.assertIn(rule + ":", " ".join(faults(source)))

    def test_kept_rules_are_no_faults(self):
        for source in (
            "MANY = {1: (2, 3)}\ndef asked(one):\n    return MANY[one] if one in MANY else MANY.get(2)\n",
            "MANY = [1]\ndef asked():\n    return [one for one in MANY] + list(MANY)\n",
            "def asked(many):\n    for one, other in enumerate(many):\n        asked(other)\n",
            "def asked(many):\n    return list(range(3)) + sorted(many.items())\n",
            "TEXT = '\\n\\\\\\''\n",
        ):
            with self.subTest(source):
                self.assertEqual(faults(source), [])


if __name__ == "__main__":
    unittest.main()
