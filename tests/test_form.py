"""The form of the package's files, by the rules of LANGUAGE.md that can be seen from a file's text."""

import ast
import builtins
import pathlib
import re
import unittest

PACKAGE = pathlib.Path(__file__).resolve().parent.parent / "cubebook"

NODES = """
Module FunctionDef ClassDef Return Assign AugAssign For While If Raise Try ExceptHandler ImportFrom alias Expr Pass
Break Continue BoolOp And Or BinOp Add Sub Mult FloorDiv Mod Pow LShift RShift BitOr BitXor BitAnd UnaryOp Invert Not
UAdd USub Lambda IfExp Dict Set ListComp comprehension Compare Eq NotEq Lt LtE Gt GtE Is IsNot In NotIn Call keyword
JoinedStr FormattedValue Constant Attribute Subscript Slice Name List Tuple Load Store arguments arg
""".split()

BUILTINS = """
len range enumerate zip min max sum abs sorted reversed int str bool list tuple dict set frozenset isinstance ord repr
any all divmod Exception ValueError TypeError KeyError IndexError LookupError ZeroDivisionError ArithmeticError
OverflowError RuntimeError NotImplementedError AttributeError StopIteration
""".split()

METHODS = """
append clear copy count endswith extend find get index insert isalnum isalpha isdigit islower isspace isupper items
join keys ljust lower lstrip partition pop remove replace reverse rfind rjust rpartition rsplit rstrip setdefault split
splitlines startswith strip update upper values zfill bit_length add discard
""".split()

UNUSED_NAMES = """
register mro elements open input version_info with_traceback add_note attrgetter breakpoint builtins compile copyright
credits delattr dir eval exec exit gc getattr globals hasattr help id importlib license locals methodcaller os quit
setattr super type vars sys
""".split()

UNUSED_WORDS = re.compile(
    r"\b(type|typing|typing_extensions|enum|Enum|IntEnum|StrEnum|Flag|IntFlag|Generic|Protocol|ABC|ABCMeta|namedtuple"
    r"|NamedTuple|TypedDict|TYPE_CHECKING|abstractmethod)\b|dataclass|overload|contextmanager")

CHANGERS = "append clear extend insert pop remove reverse setdefault update".split()
WALKERS = "list tuple dict sorted sum any all enumerate".split()
KEYWORDS = {"sorted": ("key", "reverse"), "min": ("key", "default"), "max": ("key", "default"), "sum": ("start",),
            "enumerate": ("start",), "zip": ("strict",)}

CLASS_METHODS = ["__init__", "__eq__", "__repr__", "__str__", "__len__"]
OWN_VALUES = (str, int, list, tuple, dict, set, frozenset, bytes)
FILE_NAMES_UNUSED = ["test", "tests", "testing", "site", "conftest", "sitecustomize", "usercustomize"]


def is_plain(name):
    return re.fullmatch(r"[A-Za-z][A-Za-z0-9_]*", name) is not None


def bound_names(node):
    if isinstance(node, ast.Name) and isinstance(node.ctx, ast.Store):
        return [node.id]
    if isinstance(node, ast.arg):
        return [node.arg]
    if isinstance(node, (ast.FunctionDef, ast.ClassDef)):
        return [node.name]
    if isinstance(node, ast.ExceptHandler) and node.name is not None:
        return [node.name]
    return []


def text_faults(source):
    faults = []
    for number, row in enumerate(source.split("\n"), start=1):
        if len(row) > 120:
            faults.append(("L10", number))
        if any(not " " <= sign <= "~" for sign in row):
            faults.append(("L14", number))
        if UNUSED_WORDS.search(row):
            faults.append(("L17", number))
    if source.count("\n") > 400:
        faults.append(("L10", 401))
    return faults


def top_faults(tree):
    faults = []
    for place, node in enumerate(tree.body):
        is_docstring = (place == 0 and isinstance(node, ast.Expr) and isinstance(node.value, ast.Constant)
                        and isinstance(node.value.value, str))
        is_value = isinstance(node, ast.Assign) and isinstance(node.targets[0], ast.Name)
        if not (is_docstring or is_value or isinstance(node, (ast.ImportFrom, ast.FunctionDef, ast.ClassDef))):
            faults.append(("L3", node.lineno))
    names = [name for node in tree.body for part in ([node] if not isinstance(node, ast.Assign) else node.targets)
             for name in bound_names(part)]
    names += [alias.name for node in tree.body if isinstance(node, ast.ImportFrom) for alias in node.names]
    if len(names) != len(set(names)):
        faults.append(("L15", 1))
    return faults


def import_faults(node):
    own = node.level == 0 and (node.module or "").startswith("cubebook.")
    named = all(alias.name != "*" and alias.asname is None for alias in node.names)
    return [] if own and named else [("L2", node.lineno)]


def function_faults(node):
    faults = []
    if node.end_lineno - node.lineno + 1 > 40:
        faults.append(("L10", node.lineno))
    args = node.args
    if node.decorator_list or args.vararg or args.kwarg or args.kwonlyargs or args.posonlyargs:
        faults.append(("L4", node.lineno))
    if node.returns or any(arg.annotation for arg in args.args):
        faults.append(("L21", node.lineno))
    return faults


def class_faults(node):
    faults = []
    plain = all(isinstance(part, (ast.FunctionDef, ast.Pass)) for part in node.body)
    if not plain or len(node.bases) > 1 or node.keywords or node.decorator_list:
        faults.append(("L5", node.lineno))
    return faults


def name_faults(node):
    faults = []
    for name in bound_names(node):
        if not is_plain(name) and name not in CLASS_METHODS:
            faults.append(("L12", node.lineno))
        if name in UNUSED_NAMES:
            faults.append(("L17", node.lineno))
        elif name in vars(builtins):
            faults.append(("L15", node.lineno))
    if isinstance(node, ast.Name) and isinstance(node.ctx, ast.Load):
        if node.id in vars(builtins) and node.id not in BUILTINS:
            faults.append(("L8", node.lineno))
    if isinstance(node, ast.Attribute):
        if not is_plain(node.attr) and node.attr not in CLASS_METHODS:
            faults.append(("L12", node.lineno))
        if node.attr not in METHODS and any(hasattr(own, node.attr) for own in OWN_VALUES):
            if node.attr not in CLASS_METHODS:
                faults.append(("L25", node.lineno))
    return faults


def expression_faults(node):
    faults = []
    if isinstance(node, ast.Expr) and not isinstance(node.value, ast.Call):
        faults.append(("L6", node.lineno))
    if isinstance(node, ast.Assign) and len(node.targets) > 1:
        faults.append(("L6", node.lineno))
    if isinstance(node, (ast.For, ast.While)) and node.orelse or isinstance(node, ast.Try) and node.finalbody:
        faults.append(("L6", node.lineno))
    if isinstance(node, ast.ListComp) and (len(node.generators) > 1 or len(node.generators[0].ifs) > 1):
        faults.append(("L7", node.lineno))
    if isinstance(node, ast.Constant) and isinstance(node.value, (float, complex, bytes)):
        faults.append(("L7", node.lineno))
    if isinstance(node, ast.Constant) and isinstance(node.value, str) and "%" in node.value:
        faults.append(("L27", node.lineno))
    if isinstance(node, ast.Compare) and any(isinstance(op, (ast.Is, ast.IsNot)) for op in node.ops):
        sides = [node.left] + node.comparators
        if not any(isinstance(side, ast.Constant) and repr(side.value) in ("None", "True", "False") for side in sides):
            faults.append(("L20", node.lineno))
    return faults


# What stands round each node, so that a rule may ask where a thing stands.
def parents_of(tree):
    return {child: node for node in ast.walk(tree) for child in ast.iter_child_nodes(node)}


def called_name(node):
    return node.func.id if isinstance(node, ast.Call) and isinstance(node.func, ast.Name) else None


def is_walked(node, parents):
    around = parents[node]
    if isinstance(around, (ast.For, ast.comprehension)):
        return around.iter is node
    if called_name(around) in ("min", "max"):
        return around.args == [node]
    if called_name(around) == "zip":
        return node in around.args
    return called_name(around) in WALKERS and around.args[0] is node


def is_set_place(node, parents):
    around = parents[node]
    while isinstance(around, ast.BinOp):
        around = parents[around]
    if called_name(around) in ("sorted", "len"):
        return not around.keywords
    return isinstance(around, ast.Compare) and all(isinstance(op, (ast.In, ast.NotIn, ast.Eq, ast.NotEq))
                                                   for op in around.ops)


def call_faults(node, parents):
    faults = []
    name = called_name(node)
    method = node.func.attr if isinstance(node.func, ast.Attribute) else None
    if not is_walked(node, parents):
        if name in ("zip", "enumerate", "reversed", "range") or method in ("items", "keys", "values"):
            faults.append(("L23", node.lineno))
    if name in ("set", "frozenset") and not is_set_place(node, parents):
        faults.append(("L24", node.lineno))
    for keyword in node.keywords:
        own = name is not None and name not in BUILTINS
        if not own and keyword.arg not in KEYWORDS.get(name, ()):
            faults.append(("L22", node.lineno))
    return faults


def is_called(node, parents):
    around = parents[node]
    return isinstance(around, ast.Call) and around.func is node or isinstance(around, ast.keyword)


# A name of Python's own is called, or stands as a class behind isinstance, except, raise or as a base.
def kept_faults(node, parents):
    around = parents[node]
    if isinstance(around, ast.Tuple):
        around = parents[around]
    if is_called(node, parents) or called_name(around) == "isinstance":
        return []
    return [] if isinstance(around, (ast.ExceptHandler, ast.ClassDef, ast.Raise)) else [("L22", node.lineno)]


def place_faults(tree):
    parents = parents_of(tree)
    faults = []
    for node in ast.walk(tree):
        if isinstance(node, ast.Call):
            faults += call_faults(node, parents)
        if isinstance(node, ast.Name) and node.id in BUILTINS:
            faults += kept_faults(node, parents)
        if isinstance(node, ast.Attribute) and node.attr in METHODS and not is_called(node, parents):
            faults.append(("L25", node.lineno))
        if isinstance(node, ast.Assign) and not isinstance(node.targets[0], (ast.Name, ast.Attribute, ast.Subscript)):
            faults.append(("L6", node.lineno))
        if isinstance(node, ast.BinOp) and isinstance(node.op, ast.Pow) and not isinstance(node.right, ast.Constant):
            faults.append(("L27", node.lineno))
    return faults


def handler_faults(tree):
    faults = []
    for node in ast.walk(tree):
        if isinstance(node, ast.ExceptHandler):
            named = node.type.elts if isinstance(node.type, ast.Tuple) else [node.type]
            for kind in named:
                if kind is None or kind.id in ("Exception", "TypeError", "ValueError", "LookupError", "IndexError"):
                    faults.append(("L19", node.lineno))
    return faults


# Within functions no name is bound that is a class or an import of the file, and no list or dict of its top is changed.
def inner_faults(tree):
    taken, kept = [], []
    for node in tree.body:
        if isinstance(node, ast.ImportFrom):
            taken += [alias.name for alias in node.names]
        if isinstance(node, ast.ClassDef):
            taken.append(node.name)
        if isinstance(node, ast.Assign):
            kept += bound_names(node.targets[0])
    faults = []
    for top in tree.body:
        for node in ast.walk(top):
            if node is not top and any(name in taken for name in bound_names(node)):
                faults.append(("L15", node.lineno))
            if isinstance(node, (ast.Attribute, ast.Subscript)) and isinstance(node.value, ast.Name):
                changes = isinstance(node.ctx, ast.Store) or getattr(node, "attr", None) in CHANGERS
                if node.value.id in kept and changes:
                    faults.append(("L15", node.lineno))
    return faults


def methods_and_values(tree):
    methods, values = set(), set()
    for node in ast.walk(tree):
        if isinstance(node, ast.ClassDef):
            methods |= {part.name for part in node.body if isinstance(part, ast.FunctionDef)}
        if isinstance(node, ast.Attribute) and isinstance(node.ctx, ast.Store):
            values.add(node.attr)
    return methods, values


def node_faults(node):
    name = node.__class__.__name__
    if name not in NODES:
        return [("L6 or L7, " + name, getattr(node, "lineno", 0))]
    faults = name_faults(node) + expression_faults(node)
    if isinstance(node, ast.ImportFrom):
        faults += import_faults(node)
    if isinstance(node, ast.FunctionDef):
        faults += function_faults(node)
    if isinstance(node, ast.ClassDef):
        faults += class_faults(node)
    return faults


def faults_of(source):
    tree = ast.parse(source)
    faults = text_faults(source) + top_faults(tree) + place_faults(tree) + handler_faults(tree) + inner_faults(tree)
    docstring = tree.body[:1] if ast.get_docstring(tree) is not None else []
    for node in ast.walk(tree):
        if node not in docstring:
            faults += node_faults(node)
    return faults


def drawn_from(source):
    modules = [node.module for node in ast.parse(source).body if isinstance(node, ast.ImportFrom)]
    return [module.split(".")[1] for module in modules if module.startswith("cubebook.")]


def reached(draws, begin):
    found, waiting = [], list(draws[begin])
    while waiting:
        module = waiting.pop()
        if module not in found:
            found.append(module)
            waiting += draws.get(module, [])
    return found


class FormTest(unittest.TestCase):
    def files(self):
        return sorted(path for path in PACKAGE.iterdir() if path.name != "__pycache__")

    def test_files_are_plain_and_nothing_else_lies_there(self):
        self.assertIn(PACKAGE / "__init__.py", self.files())
        for path in self.files():
            with self.subTest(file=path.name):
                self.assertTrue(path.is_file())
                self.assertRegex(path.name, r"\A([a-z][a-z0-9_]*|__init__)\.py\Z")
                self.assertNotIn(path.stem, FILE_NAMES_UNUSED)
                self.assertFalse(path.stem.startswith("test_") or path.stem in vars(builtins))

    def test_each_file_keeps_to_the_rules(self):
        for path in self.files():
            with self.subTest(file=path.name):
                self.assertEqual(faults_of(path.read_bytes().decode("ascii")), [])

    def test_no_two_files_draw_from_one_another(self):
        draws = {path.stem: drawn_from(path.read_text()) for path in self.files()}
        for module in draws:
            with self.subTest(module=module):
                self.assertNotIn(module, reached(draws, module))

    def test_each_name_is_drawn_from_the_file_that_defines_it(self):
        for path in self.files():
            for node in ast.parse(path.read_text()).body:
                if isinstance(node, ast.ImportFrom):
                    source = (PACKAGE / (node.module.split(".")[1] + ".py")).read_text()
                    defined = [name for part in ast.parse(source).body
                               for name in bound_names(part.targets[0] if isinstance(part, ast.Assign) else part)]
                    for alias in node.names:
                        self.assertIn(alias.name, defined, path.name)

    def test_no_name_is_a_method_here_and_a_value_there(self):
        methods, values = set(), set()
        for path in self.files():
            found = methods_and_values(ast.parse(path.read_text()))
            methods |= found[0]
            values |= found[1]
        self.assertEqual(methods & values, set())
        self.assertEqual([name for name in values if any(hasattr(own, name) for own in OWN_VALUES)], [])

    def test_what_is_drawn_is_used(self):
        for path in self.files():
            tree = ast.parse(path.read_text())
            used = {node.id for node in ast.walk(tree) if isinstance(node, ast.Name)}
            for node in tree.body:
                if isinstance(node, ast.ImportFrom):
                    self.assertEqual([alias.name for alias in node.names if alias.name not in used], [], path.name)

    def test_faults_are_seen(self):
        wrong = [
            "import os\n", "from os import path\n", "from .words import is_word\n", "from cubebook.words import *\n",
            "x = 1.5\n", "x = b'a'\n", "x = 1\nx = 2\n", "print(1)\n", "y = x = 1\n", "x = 4 / 2\n",
            "def f(*xs):\n    return xs\n", "def f(x):\n    'words'\n    return x\n",
            "def f(x) -> int:\n    return x\n", "def f(x):\n    return x is 1\n",
            "def f(x):\n    return {y for y in x}\n",
            "def f(x):\n    return any(y for y in x)\n", "def f(x):\n    return x.sort()\n",
            "def f(_x):\n    return 1\n",
            "def f(x):\n    for y in x:\n        pass\n    else:\n        pass\n", "def f(x):\n    assert x\n",
            "def f(x):\n    return hash(x)\n", "def f(hash):\n    return 1\n", "# the type\n",
            "# a\ttab\n", "# \u00e9\n",
            "def f(x):\n    x = 1\n" + "    x = 2\n" * 39, "x = 1\n" + "#\n" * 400, "#" + " " * 119 + "x\n",
            "class A:\n    x = 1\n", "class A(B, C):\n    pass\n", "x = '%'\n", "@f\ndef g():\n    pass\n",
            "def f(x):\n    y = zip(x, x)\n    return 1\n", "def f(x):\n    return x.items()\n",
            "def f(x):\n    y = set(x)\n    return y == 1\n", "def f(x):\n    return x.split(sep=1)\n",
            "def f(x):\n    y = len\n    return y(x)\n", "def f(x):\n    y = x.append\n    return y\n",
            "def f(x):\n    y, z = x\n    return y\n", "def f(x):\n    return 2 ** x\n", "X = []\ndef f(x):\n    X.append(x)\n",
            "def f(x):\n    try:\n        f(x)\n    except Exception:\n        pass\n",
            "from cubebook.words import is_word\ndef f(is_word):\n    return 1\n",
            "class A:\n    pass\ndef f(x):\n    A = x\n    return A\n", "X = {}\ndef f(x):\n    X[x] = 1\n",
            "def f(x):\n    return [y for y in x for z in y]\n", "def f(x):\n    with x:\n        pass\n",
        ]
        for source in wrong:
            with self.subTest(source=source[:60]):
                self.assertNotEqual(faults_of(source), [])


if __name__ == "__main__":
    unittest.main()
