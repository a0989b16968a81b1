"""The package keeps to LANGUAGE.md, as far as a plain reading of the files can tell.

Looked at, in whole or in part: L1 to L8, L10, L12 to L28.
Not looked at: L9 (but that no name of Python's own that reads or prints is there), L11, and of the others what
hangs on what a value is.
"""

import ast
import builtins
import re
import unittest
from pathlib import Path

PACKAGE = Path(__file__).resolve().parent.parent / "roadshare"

BUILTINS = set(
    "len range enumerate zip min max sum abs sorted reversed int str bool list tuple dict set frozenset isinstance ord"
    " repr any all divmod Exception ValueError TypeError KeyError IndexError LookupError ZeroDivisionError"
    " ArithmeticError OverflowError RuntimeError NotImplementedError AttributeError StopIteration".split()
)
METHODS = set(
    "append clear copy count endswith extend find get index insert isalnum isalpha isdigit islower isspace isupper"
    " items join keys ljust lower lstrip partition pop remove replace reverse rfind rjust rpartition rsplit rstrip"
    " setdefault split splitlines startswith strip update upper values zfill bit_length".split()
)
# What a name of Python's own may be handed by keyword, and where a row of things may be walked on the spot.
KEYWORDS = {
    "sorted": {"key", "reverse"}, "min": {"key", "default"}, "max": {"key", "default"}, "sum": {"start"},
    "enumerate": {"start"}, "zip": {"strict"},
}
KEYS = {"len", "int", "str", "abs", "sum", "min", "max", "tuple"}
ROWS = {"zip", "enumerate", "reversed", "range"}
VIEWS = {"items", "keys", "values"}
WALKERS = {"list", "tuple", "dict", "sorted", "sum", "any", "all", "enumerate", "zip"}
NO_VALUES = set(
    "items keys values pop update append clear extend insert remove reverse setdefault sort args encode format".split()
)
FREE_VALUES = set("count index title find get join lower upper split strip copy add".split())
DUNDERS = {"__init__", "__eq__", "__repr__", "__str__", "__len__"}
FOREIGN = set(dir(str) + dir(int) + dir(list) + dir(dict) + dir(set) + dir(bytes)) - METHODS - DUNDERS - {"add", "discard"}
BANNED_NAMES = {"register", "mro", "elements", "open", "input", "version_info", "with_traceback", "add_note"}
BANNED_WORDS = re.compile(
    r"\b(type|typing|typing_extensions|enum|Enum|IntEnum|StrEnum|Flag|IntFlag|Generic|Protocol|ABC|ABCMeta"
    r"|namedtuple|NamedTuple|TypedDict|TYPE_CHECKING|abstractmethod)\b|dataclass|overload|contextmanager"
)
NODES = (
    ast.Module, ast.FunctionDef, ast.ClassDef, ast.arguments, ast.arg, ast.ImportFrom, ast.alias,
    ast.Assign, ast.AugAssign, ast.If, ast.While, ast.For, ast.Return, ast.Break, ast.Continue, ast.Pass, ast.Raise,
    ast.Try, ast.ExceptHandler, ast.Expr, ast.Constant, ast.List, ast.Tuple, ast.Dict, ast.Set, ast.BinOp, ast.UnaryOp,
    ast.BoolOp, ast.Compare, ast.IfExp, ast.Call, ast.keyword, ast.Attribute, ast.Subscript, ast.Slice, ast.ListComp,
    ast.comprehension, ast.JoinedStr, ast.FormattedValue, ast.Lambda, ast.Name, ast.expr_context, ast.operator,
    ast.unaryop, ast.boolop, ast.cmpop,
)
RULES = {}


def rule(function):
    RULES[function.__name__] = function
    return function


def top_names(tree):
    names = []
    for node in tree.body:
        if isinstance(node, (ast.FunctionDef, ast.ClassDef)):
            names.append(node.name)
        elif isinstance(node, ast.Assign):
            names += [target.id for target in node.targets if isinstance(target, ast.Name)]
        elif isinstance(node, ast.ImportFrom):
            names += [alias.asname or alias.name for alias in node.names]
    return names


def methods_of(tree):
    classes = [node for node in ast.walk(tree) if isinstance(node, ast.ClassDef)]
    return {within.name for node in classes for within in node.body if isinstance(within, ast.FunctionDef)}


def values_of(tree):
    return {
        node.attr for node in ast.walk(tree) if isinstance(node, ast.Attribute) and isinstance(node.ctx, ast.Store)
    }


def bound(node):
    """The names that a node binds, gives to a value or hands by name."""
    if isinstance(node, (ast.FunctionDef, ast.ClassDef, ast.ExceptHandler)):
        return [node.name] if node.name else []
    if isinstance(node, ast.Name):
        return [node.id]
    if isinstance(node, ast.Attribute):
        return [node.attr]
    if isinstance(node, (ast.arg, ast.keyword)):
        return [node.arg] if node.arg else []
    if isinstance(node, ast.alias):
        return [node.asname or node.name]
    return []


@rule
def l2_imports(tree, source):
    for node in ast.walk(tree):
        if isinstance(node, ast.Import):
            yield node.lineno
        if isinstance(node, ast.ImportFrom):
            plain = not node.level and node.module.startswith("roadshare.") and node in tree.body
            if not plain or any(alias.name == "*" or alias.asname for alias in node.names):
                yield node.lineno


@rule
def l3_top(tree, source):
    for place, node in enumerate(tree.body):
        docstring = place == 0 and isinstance(node, ast.Expr) and isinstance(node.value, ast.Constant)
        if not docstring and not isinstance(node, (ast.ImportFrom, ast.FunctionDef, ast.ClassDef, ast.Assign)):
            yield node.lineno
        if isinstance(node, ast.Assign) and any(isinstance(within, ast.Call) for within in ast.walk(node)):
            yield node.lineno


@rule
def l4_functions(tree, source):
    for node in ast.walk(tree):
        if isinstance(node, ast.arguments) and (node.vararg or node.kwarg or node.kwonlyargs or node.posonlyargs):
            yield 0
        if isinstance(node, (ast.FunctionDef, ast.ClassDef)) and node.decorator_list:
            yield node.lineno


@rule
def l5_classes(tree, source):
    for node in ast.walk(tree):
        if isinstance(node, ast.ClassDef):
            if len(node.bases) > 1 or node.keywords or node not in tree.body:
                yield node.lineno
            for within in node.body:
                if not isinstance(within, (ast.FunctionDef, ast.Pass)):
                    yield within.lineno


@rule
def l6_statements(tree, source):
    for node in ast.walk(tree):
        if isinstance(node, ast.Assign) and len(node.targets) > 1:
            yield node.lineno
        if isinstance(node, (ast.For, ast.While)) and node.orelse:
            yield node.lineno
        if isinstance(node, ast.Try) and node.finalbody:
            yield node.lineno
        if isinstance(node, ast.ExceptHandler) and node.type is None:
            yield node.lineno
        if isinstance(node, ast.Expr) and not isinstance(node.value, ast.Call) and node is not tree.body[0]:
            yield node.lineno


@rule
def l7_nodes(tree, source):
    for node in ast.walk(tree):
        wrong = not isinstance(node, NODES) or isinstance(node, (ast.Div, ast.MatMult))
        if isinstance(node, ast.Constant):
            wrong = not (node.value is None or isinstance(node.value, (int, str)))
        if isinstance(node, ast.ListComp):
            wrong = len(node.generators) != 1 or len(node.generators[0].ifs) > 1
        if isinstance(node, ast.FormattedValue):
            wrong = not isinstance(node.value, ast.Name) or node.format_spec or node.conversion not in (-1, ord("r"))
        if wrong:
            yield getattr(node, "lineno", 0)


@rule
def l8_builtins(tree, source):
    for node in ast.walk(tree):
        if isinstance(node, ast.Name) and hasattr(builtins, node.id):
            if node.id not in BUILTINS or not isinstance(node.ctx, ast.Load):
                yield node.lineno
        if isinstance(node, (ast.arg, ast.alias)) and any(hasattr(builtins, name) for name in bound(node)):
            yield node.lineno
    for name in top_names(tree):
        if hasattr(builtins, name):
            yield 1


@rule
def l10_size(tree, source):
    lines = source.split("\n")
    if len(lines) > 400 + 1:
        yield 400
    for place, line in enumerate(lines, start=1):
        if len(line) > 120:
            yield place
    for node in ast.walk(tree):
        if isinstance(node, ast.FunctionDef) and node.end_lineno - node.lineno + 1 > 40:
            yield node.lineno


@rule
def l12_names(tree, source):
    for node in ast.walk(tree):
        for name in bound(node):
            if not re.fullmatch("[A-Za-z][A-Za-z0-9_]*", name) and name not in DUNDERS:
                yield getattr(node, "lineno", 0)


@rule
def l13_two_forms(tree, source):
    asked = [side for node in ast.walk(tree) if isinstance(node, ast.Compare) for side in node.comparators]
    lambdas = []
    for node in ast.walk(tree):
        if isinstance(node, ast.Set) and len(node.elts) >= 3 and node not in asked:
            yield node.lineno
        if isinstance(node, ast.Lambda):
            alike = (node.lineno, ast.dump(node.args))
            if alike in lambdas:
                yield node.lineno
            lambdas.append(alike)


@rule
def l14_signs(tree, source):
    for place, line in enumerate(source.split("\n"), start=1):
        if not all(" " <= sign <= "~" for sign in line):
            yield place


@rule
def l15_each_name_once(tree, source):
    names = top_names(tree)
    if len(names) != len(set(names)):
        yield 1
    outer = {node.name for node in tree.body if isinstance(node, ast.ClassDef)}
    outer |= {alias.name for node in tree.body if isinstance(node, ast.ImportFrom) for alias in node.names}
    for node in ast.walk(tree):
        if isinstance(node, ast.arg) and node.arg in outer:
            yield node.lineno
        if isinstance(node, ast.Name) and isinstance(node.ctx, ast.Store) and node.id in outer:
            yield node.lineno


@rule
def l15_nothing_kept_there(tree, source):
    kept = {}
    for node in tree.body:
        if isinstance(node, ast.Assign) and isinstance(node.value, (ast.List, ast.Dict)):
            kept.update({target.id: node.value for target in node.targets if isinstance(target, ast.Name)})
    for value in kept.values():
        if any(isinstance(within, (ast.List, ast.Dict)) for within in ast.walk(value) if within is not value):
            yield value.lineno
    read = set()
    for node in ast.walk(tree):
        if isinstance(node, ast.Subscript) and isinstance(node.ctx, ast.Load):
            read.add(node.value)
        if isinstance(node, ast.Compare):
            read.update(node.comparators)
        if isinstance(node, (ast.For, ast.comprehension)):
            read.add(node.iter)
        if isinstance(node, ast.Call) and isinstance(node.func, ast.Name) and node.func.id in WALKERS | {"len"}:
            read.update(node.args)
        if isinstance(node, ast.Attribute) and node.attr in VIEWS | {"get", "index", "count", "copy"}:
            read.add(node.value)
    for node in ast.walk(tree):
        if isinstance(node, ast.Name) and isinstance(node.ctx, ast.Load) and node.id in kept and node not in read:
            yield node.lineno


@rule
def l17_words(tree, source):
    for place, line in enumerate(source.split("\n"), start=1):
        if BANNED_WORDS.search(line):
            yield place
    for node in ast.walk(tree):
        for name in bound(node):
            if name in BANNED_NAMES or re.match("(f|tb|co|gi|cr)_(?=[a-z])", name):
                yield getattr(node, "lineno", 0)


@rule
def l18_classes(tree, source):
    classes = [node for node in ast.walk(tree) if isinstance(node, ast.ClassDef)]
    for node in classes:
        methods = [within.name for within in node.body if isinstance(within, ast.FunctionDef)]
        if len(methods) != len(set(methods)):
            yield node.lineno
    if methods_of(tree) & values_of(tree):
        yield 1
    outer = set(top_names(tree))
    for node in ast.walk(tree):
        if isinstance(node, ast.Attribute) and isinstance(node.ctx, ast.Store):
            if not isinstance(node.value, ast.Name) or node.value.id in outer:
                yield node.lineno


@rule
def l19_errors(tree, source):
    for node in ast.walk(tree):
        if isinstance(node, ast.ExceptHandler) and node.type is not None:
            taken = [name.id for name in ast.walk(node.type) if isinstance(name, ast.Name)]
            if "Exception" in taken or "TypeError" in taken:
                yield node.lineno
        if isinstance(node, ast.Raise) and not isinstance(node.exc, ast.Call):
            yield node.lineno


@rule
def l20_is(tree, source):
    for node in ast.walk(tree):
        if isinstance(node, ast.Compare) and any(isinstance(way, (ast.Is, ast.IsNot)) for way in node.ops):
            sides = [node.left] + node.comparators
            if not any(isinstance(side, ast.Constant) and side.value in (None, True, False) for side in sides):
                yield node.lineno


@rule
def l21_annotations(tree, source):
    for node in ast.walk(tree):
        told = getattr(node, "annotation", None) or getattr(node, "returns", None)
        if told is not None:
            yield node.lineno


@rule
def l22_as_they_are_called(tree, source):
    called = set()
    for node in ast.walk(tree):
        if isinstance(node, ast.Call):
            called.add(node.func)
            name = node.func.id if isinstance(node.func, ast.Name) else ""
            method = node.func.attr if isinstance(node.func, ast.Attribute) else ""
            for keyword in node.keywords:
                if (name in BUILTINS and keyword.arg not in KEYWORDS.get(name, ())) or method in METHODS:
                    yield node.lineno
                if keyword.arg in ("reverse", "strict") and not isinstance(keyword.value, ast.Constant):
                    yield node.lineno
                if keyword.arg == "key" and isinstance(keyword.value, ast.Name) and keyword.value.id in KEYS:
                    called.add(keyword.value)
            if name == "isinstance":
                called.update(ast.walk(node.args[1]))
        if isinstance(node, ast.ClassDef):
            called.update(node.bases)
        if isinstance(node, ast.ExceptHandler) and node.type is not None:
            called.update(ast.walk(node.type))
    for node in ast.walk(tree):
        if isinstance(node, ast.Name) and node.id in BUILTINS and node not in called:
            yield node.lineno


@rule
def l23_walked_at_once(tree, source):
    walked = set()
    for node in ast.walk(tree):
        if isinstance(node, (ast.For, ast.comprehension)):
            walked.add(node.iter)
        if isinstance(node, ast.Call) and isinstance(node.func, ast.Name):
            if node.func.id in WALKERS or (node.func.id in ("min", "max") and len(node.args) == 1):
                walked.update(node.args if node.func.id == "zip" else node.args[:1])
        if isinstance(node, ast.Call) and isinstance(node.func, ast.Attribute) and node.func.attr == "join":
            if isinstance(node.func.value, ast.Constant):
                walked.update(node.args)
    for node in ast.walk(tree):
        if isinstance(node, ast.Call) and node not in walked:
            row = isinstance(node.func, ast.Name) and node.func.id in ROWS
            view = isinstance(node.func, ast.Attribute) and node.func.attr in VIEWS
            if row or view:
                yield node.lineno


@rule
def l24_sets(tree, source):
    for node in ast.walk(tree):
        if isinstance(node, (ast.Assign, ast.Return)) and isinstance(node.value, (ast.Set, ast.Call)):
            made = node.value
            if isinstance(made, ast.Set) or isinstance(made.func, ast.Name) and made.func.id in ("set", "frozenset"):
                yield node.lineno


@rule
def l25_methods(tree, source):
    for node in ast.walk(tree):
        if isinstance(node, ast.Attribute) and node.attr in FOREIGN:
            yield node.lineno
        if isinstance(node, ast.Attribute) and node.attr.startswith("__") and node.attr not in DUNDERS:
            yield node.lineno


@rule
def l26_own_names(tree, source):
    if values_of(tree) & (NO_VALUES | (METHODS - FREE_VALUES) | FOREIGN):
        yield 1
    if (methods_of(tree) - {"add", "discard"}) & FOREIGN:
        yield 1


@rule
def l27_numbers_and_texts(tree, source):
    for node in ast.walk(tree):
        if isinstance(node, ast.BinOp) and isinstance(node.op, ast.Pow):
            exponent = node.right
            if not (isinstance(exponent, ast.Constant) and exponent.value in range(65)):
                yield node.lineno
        if isinstance(node, ast.Constant) and isinstance(node.value, str) and "%" in node.value:
            yield node.lineno
        if isinstance(node, ast.Name) and node.id == "chr":
            yield node.lineno


@rule
def l28_underscores(tree, source):
    for node in ast.walk(tree):
        if isinstance(node, ast.FunctionDef) and node.name.startswith("__"):
            # Best: don't write them. The one that is needed gives back nothing.
            if node.name != "__init__":
                yield node.lineno
            for within in ast.walk(node):
                if isinstance(within, ast.Return) and within.value is not None:
                    yield within.lineno


def faults(source):
    tree = ast.parse(source)
    return [f"{name}, line {line}" for name, look in RULES.items() for line in look(tree, source)]


def modules():
    return {path.stem: path.read_text(encoding="utf-8") for path in sorted(PACKAGE.glob("*.py"))}


def drawn_from(source):
    return {node.module.split(".")[-1]: [alias.name for alias in node.names]
            for node in ast.parse(source).body if isinstance(node, ast.ImportFrom)}


class PackageTest(unittest.TestCase):
    def test_each_file_keeps_to_the_rules(self):
        for name, source in modules().items():
            with self.subTest(name=name):
                self.assertEqual(faults(source), [])

    def test_nothing_but_plainly_called_files_lies_in_the_package(self):
        names = [path.name for path in PACKAGE.iterdir() if path.name != "__pycache__"]
        self.assertIn("__init__.py", names)
        for name in names:
            with self.subTest(name=name):
                self.assertRegex(name, r"^([a-z][a-z0-9_]*|__init__)\.py$")
                self.assertFalse(name != "__init__.py" and hasattr(builtins, name[:-3]))
                self.assertNotRegex(name, r"^(tests?|testing|test_.*|site|conftest|sitecustomize|usercustomize)\.py$")
                self.assertIsNone(BANNED_WORDS.search(name))

    def test_names_are_drawn_from_the_files_that_define_them(self):
        sources = modules()
        for name, source in sources.items():
            for module, drawn in drawn_from(source).items():
                with self.subTest(name=name, module=module):
                    body = [node for node in ast.parse(sources[module]).body if not isinstance(node, ast.ImportFrom)]
                    defined = top_names(ast.Module(body=body, type_ignores=[]))
                    self.assertLessEqual(set(drawn), set(defined))

    def test_no_two_files_draw_from_one_another(self):
        left = {name: set(drawn_from(source)) for name, source in modules().items()}
        while left:
            free = [name for name in left if not left[name] & set(left)]
            self.assertTrue(free, f"a ring among {sorted(left)}")
            left = {name: drawn for name, drawn in left.items() if name not in free}

    def test_no_name_is_a_method_in_one_class_and_a_value_in_another(self):
        trees = [ast.parse(source) for source in modules().values()]
        methods = set().union(*[methods_of(tree) for tree in trees])
        values = set().union(*[values_of(tree) for tree in trees])
        self.assertIn("roads", methods)
        self.assertIn("ways", values)
        self.assertEqual(methods & values, set())

    def test_init_binds_no_name_of_a_file(self):
        names = set(top_names(ast.parse(modules()["__init__"])))
        self.assertEqual(names & set(modules()), set())


class RulesTest(unittest.TestCase):
    """Each rule's look finds what it is there for."""

    def test_broken_rules_are_found(self):
        for name, source in [
            ("l2_imports", "import math"), ("l2_imports", "from math import gcd"),
            ("l2_imports", "from roadshare.ratios import *"), ("l2_imports", "from .ratios import ratio"),
            ("l3_top", "if 1:\n    x = 2"), ("l3_top", "x = list()"),
            ("l4_functions", "def f(*a):\n    pass"), ("l4_functions", "def f(*, a):\n    pass"),
            ("l4_functions", "@g\ndef f():\n    pass"),
            ("l5_classes", "class A:\n    x = 1"), ("l5_classes", "class A(B, C):\n    pass"),
            ("l6_statements", "a = b = 1"), ("l6_statements", "def f():\n    for x in y:\n        pass\n    else:\n        pass"),
            ("l6_statements", "def f():\n    'words'"), ("l6_statements", "try:\n    f()\nexcept:\n    pass"),
            ("l7_nodes", "x = 1.5"), ("l7_nodes", "x = b'a'"), ("l7_nodes", "x = 1 / 2"), ("l7_nodes", "del x"),
            ("l7_nodes", "assert x"), ("l7_nodes", "x = (y for y in z)"), ("l7_nodes", "x = {y for y in z}"),
            ("l7_nodes", "x = {y: y for y in z}"), ("l7_nodes", "x = [y for y in z for w in y]"),
            ("l7_nodes", "x = f(*y)"), ("l7_nodes", "x = f'{y + 1}'"), ("l7_nodes", "import math"),
            ("l8_builtins", "x = map(f, y)"), ("l8_builtins", "len = 3"), ("l8_builtins", "def sum():\n    pass"),
            ("l8_builtins", "def f(id):\n    pass"), ("l8_builtins", "x = print"),
            ("l10_size", "x = '" + "a" * 120 + "'"), ("l10_size", "x = 1\n" * 401),
            ("l10_size", "def f():\n" + "    x = 1\n" * 40),
            ("l12_names", "_ = 1"), ("l12_names", "def _f():\n    pass"), ("l12_names", "x = y._z"),
            ("l13_two_forms", "x = y == {1, 2, 3} | z"), ("l13_two_forms", "x = [lambda a: 1, lambda a: 2]"),
            ("l14_signs", "# \u00e9"), ("l14_signs", "if x:\n\ty = 1"),
            ("l15_each_name_once", "x = 1\nx = 2"), ("l15_each_name_once", "class A:\n    pass\ndef f(A):\n    pass"),
            ("l15_each_name_once", "from roadshare.a import b\ndef f():\n    b = 1"),
            ("l15_nothing_kept_there", "x = [[1], 2]"), ("l15_nothing_kept_there", "x = {1: {}}"),
            ("l15_nothing_kept_there", "x = []\ndef f():\n    x.append(1)"),
            ("l15_nothing_kept_there", "x = {}\ndef f():\n    x[1] = 2"),
            ("l15_nothing_kept_there", "x = {}\ndef f():\n    return x"),
            ("l15_nothing_kept_there", "x = {}\ndef f():\n    g(x)"),
            ("l17_words", "# its type"), ("l17_words", "x = my_dataclasses"), ("l17_words", "x.register()"),
            ("l18_classes", "class A:\n    def f(self):\n        pass\n    def f(self):\n        pass"),
            ("l18_classes", "class A:\n    def f(self):\n        self.f = 1"),
            ("l18_classes", "class A:\n    pass\ndef f():\n    A.x = 1"), ("l18_classes", "def f(x):\n    x.y.z = 1"),
            ("l19_errors", "try:\n    f()\nexcept Exception:\n    pass"), ("l19_errors", "def f():\n    raise e"),
            ("l20_is", "x = y is z"),
            ("l21_annotations", "def f(x: int):\n    pass"), ("l21_annotations", "def f() -> int:\n    pass"),
            ("l21_annotations", "x: int = 1"),
            ("l22_as_they_are_called", "x = len"), ("l22_as_they_are_called", "x = sorted(y, key=repr)"),
            ("l22_as_they_are_called", "x = y.split(sep=' ')"), ("l22_as_they_are_called", "x = int(y, base=2)"),
            ("l22_as_they_are_called", "x = sorted(y, reverse=z)"),
            ("l23_walked_at_once", "x = range(3)"), ("l23_walked_at_once", "x = y.items()"),
            ("l23_walked_at_once", "x = f(zip(y, z))"), ("l23_walked_at_once", "x = len(y.keys())"),
            ("l23_walked_at_once", "x = max(range(y), z)"),
            ("l26_own_names", "x.pop = 1"), ("l26_own_names", "x.isdigit = 1"),
            ("l26_own_names", "class A:\n    def casefold(self):\n        pass"),
            ("l28_underscores", "class A:\n    def __len__(self):\n        return 1"),
            ("l28_underscores", "class A:\n    def __init__(self):\n        return None"),
            ("l24_sets", "x = set(y)"), ("l24_sets", "x = {1, 2}"),
            ("l25_methods", "x.sort()"), ("l25_methods", "x = y.__class__"), ("l25_methods", "x = y.format(1)"),
            ("l27_numbers_and_texts", "x = 2 ** n"), ("l27_numbers_and_texts", "x = '%d'"),
        ]:
            with self.subTest(name=name, source=source[:60]):
                self.assertIn(name, {fault.split(",")[0] for fault in faults(source)})

    def test_what_keeps_to_the_rules_is_left_alone(self):
        source = (
            '"""Words."""\n\nfrom roadshare.errors import NoTree\n\nMOST = 40\nSOME = {1: (1, 2)}\n\n\n'
            "def told(one):\n    return [SOME[one], SOME.get(one), one in SOME, len(SOME), dict(SOME)]\n\n\n"
            'class Thing(Other):\n'
            "    def __init__(self, some):\n        self.some = list(some)\n\n    def told(self, k=1):\n"
            "        if k is None or not isinstance(k, int):\n            raise NoTree(f\"no {k}\")\n"
            "        return sorted([one // 2 for one in self.some if one < MOST], key=lambda one: -one)[k:]\n\n"
            "    def walked(self, d):\n        for one, other in zip(d.keys(), reversed(self.some)):\n"
            "            if one in {1, 2, 3} or isinstance(other, (int, str)):\n                self.some = []\n"
            "        return max([sum(d.values()), len(list(range(3)))], key=abs)\n"
        )
        self.assertEqual(faults(source), [])


if __name__ == "__main__":
    unittest.main()
