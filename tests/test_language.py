"""The form of the package's files, so far as it can be seen line by line and name by name."""

import ast
import builtins
import pathlib
import re
import unittest

import truthgrades

FOLDER = pathlib.Path(truthgrades.__file__).parent

# What a module may be made of; another node is outside the language.
NODES = """
    Module Import ImportFrom alias FunctionDef Lambda arguments arg ClassDef Return Assign AugAssign For While If Raise
    Try ExceptHandler Expr Pass Break Continue BoolOp And Or BinOp Add Sub Mult FloorDiv Mod Pow LShift RShift BitOr
    BitXor BitAnd UnaryOp Invert Not UAdd USub IfExp Dict Set List Tuple ListComp comprehension Compare Eq NotEq Lt LtE
    Gt GtE Is IsNot In NotIn Call keyword Attribute Subscript Slice Constant JoinedStr FormattedValue Name Load Store
""".split()

BUILT_IN = """
    len range enumerate zip min max sum abs sorted reversed int str bool list tuple dict set frozenset isinstance ord
    repr any all divmod Exception ValueError TypeError KeyError IndexError LookupError ZeroDivisionError ArithmeticError
    OverflowError RuntimeError NotImplementedError StopIteration
""".split()

METHODS = """
    append clear copy count endswith extend find get index insert isalnum isalpha isdigit islower isspace isupper items
    join keys ljust lower lstrip partition pop remove replace reverse rfind rjust rpartition rsplit rstrip setdefault
    split splitlines startswith strip update upper values zfill bit_length
""".split()

TWO_UNDERSCORES = ("__init__", "__eq__", "__repr__", "__str__", "__len__")

WORDS = re.compile(
    r"\b(type|typing|typing_extensions|enum|Enum|IntEnum|StrEnum|Flag|IntFlag|Generic|Protocol|ABC|ABCMeta|namedtuple"
    r"|NamedTuple|TypedDict|TYPE_CHECKING|abstractmethod)\b|dataclass|overload|contextmanager"
)

UNUSED = """
    register mro elements open input version_info with_traceback add_note attrgetter breakpoint builtins compile
    copyright credits delattr dir eval exec exit gc getattr globals hasattr help id importlib license locals
    methodcaller os quit setattr super vars sys
""".split()


def faults_of_text(text):
    faults = [f"L17 {found.group()}" for found in WORDS.finditer(text)]
    if any(sign != "\n" and not " " <= sign <= "~" for sign in text):
        faults.append("L14 sign")
    lines = text.split("\n")
    if len(lines) > 400 or any(len(line) > 120 for line in lines):
        faults.append("L10 size")
    return faults


def faults_of_top(tree):
    faults = []
    for place, node in enumerate(tree.body):
        is_docstring = place == 0 and isinstance(node, ast.Expr) and isinstance(node.value, ast.Constant)
        if not is_docstring and not isinstance(node, (ast.ImportFrom, ast.FunctionDef, ast.ClassDef, ast.Assign)):
            faults.append("L3 top")
    bound = [name for node in tree.body for name in bound_by(node)]
    if len(bound) != len(set(bound)):
        faults.append("L15 bound twice")
    for node in ast.walk(tree):
        if isinstance(node, (ast.Import, ast.ImportFrom)):
            own = isinstance(node, ast.ImportFrom) and node.level == 0 and node.module.startswith("truthgrades.")
            if not own or node not in tree.body or any(name.name == "*" or name.asname for name in node.names):
                faults.append("L2 import")
    return faults


def bound_by(node):
    if isinstance(node, ast.ImportFrom):
        return [name.name for name in node.names]
    if isinstance(node, ast.Assign):
        return [name.id for name in ast.walk(node) if isinstance(name, ast.Name) and isinstance(name.ctx, ast.Store)]
    return [node.name] if isinstance(node, (ast.FunctionDef, ast.ClassDef)) else []


def faults_of_locals(tree):
    """Parameters and locals that are called like a class or an import of their file."""
    outer = [name for node in tree.body if isinstance(node, (ast.ImportFrom, ast.ClassDef)) for name in bound_by(node)]
    faults = []
    for node in ast.walk(tree):
        if isinstance(node, ast.arg) or isinstance(node, ast.Name) and isinstance(node.ctx, ast.Store):
            faults.extend(f"L15 local {name}" for name in names_in(node) if name in outer)
    return faults


def names_in(node):
    """The names that a node gives a meaning, and those that it reads."""
    if isinstance(node, ast.Name):
        return [node.id]
    if isinstance(node, ast.arg):
        return [node.arg]
    if isinstance(node, (ast.FunctionDef, ast.ClassDef)):
        return [node.name]
    return [node.attr] if isinstance(node, ast.Attribute) else []


def faults_of_names(node):
    faults = []
    for name in names_in(node):
        plain = re.fullmatch("[A-Za-z][A-Za-z0-9_]*", name) or name in TWO_UNDERSCORES
        if not plain or name in UNUSED:
            faults.append(f"L12 or L17 {name}")
        is_read = isinstance(node, ast.Name) and isinstance(node.ctx, ast.Load)
        is_free = isinstance(node, ast.Attribute) or name in TWO_UNDERSCORES or (is_read and name in BUILT_IN)
        if hasattr(builtins, name) and not is_free:
            faults.append(f"L8 or L15 {name}")
    return faults


def faults_of_def(node):
    faults = []
    taken = node.args
    if taken.vararg or taken.kwarg or taken.kwonlyargs or taken.posonlyargs:
        faults.append("L4 parameters")
    if isinstance(node, ast.FunctionDef):
        if node.decorator_list:
            faults.append("L4 decorator")
        if node.end_lineno - node.lineno + 1 > 40:
            faults.append("L10 function")
    return faults


def faults_of_node(node):
    faults = faults_of_names(node)
    kind = node.__class__.__name__
    if kind not in NODES:
        faults.append(f"L6 or L7 {kind}")
    if isinstance(node, (ast.FunctionDef, ast.Lambda)):
        faults.extend(faults_of_def(node))
    if isinstance(node, ast.ClassDef) and (node.decorator_list or len(node.bases) > 1 or node.keywords):
        faults.append("L5 class")
    if isinstance(node, (ast.For, ast.While)) and node.orelse or isinstance(node, ast.Try) and node.finalbody:
        faults.append("L6 else or finally")
    if isinstance(node, ast.Assign) and (len(node.targets) > 1 or isinstance(node.targets[0], ast.Tuple)):
        faults.append("L6 target")
    if isinstance(node, ast.ListComp) and (len(node.generators) > 1 or len(node.generators[0].ifs) > 1):
        faults.append("L7 comprehension")
    if isinstance(node, ast.Constant) and not isinstance(node.value, (int, str, type(None))):
        faults.append("L7 value")
    if isinstance(node, ast.Constant) and isinstance(node.value, str) and "%" in node.value:
        faults.append("L27 sign")
    if isinstance(node, ast.BinOp) and isinstance(node.op, ast.Pow) and not isinstance(node.right, ast.Constant):
        faults.append("L27 power")
    if isinstance(node, ast.Compare) and any(isinstance(sign, (ast.Is, ast.IsNot)) for sign in node.ops):
        if not isinstance(node.comparators[-1], ast.Constant):
            faults.append("L20 is")
    return faults


def faults_of_methods(tree, own):
    faults = []
    for node in ast.walk(tree):
        if isinstance(node, ast.Call) and isinstance(node.func, ast.Attribute):
            if node.func.attr not in METHODS and node.func.attr not in own:
                faults.append(f"L25 {node.func.attr}")
    return faults


def methods_in(tree):
    methods = list(TWO_UNDERSCORES)
    for node in ast.walk(tree):
        if isinstance(node, ast.ClassDef):
            methods.extend(inner.name for inner in node.body if isinstance(inner, ast.FunctionDef))
    return methods


def faults(text):
    tree = ast.parse(text)
    found = faults_of_text(text) + faults_of_top(tree) + faults_of_methods(tree, methods_in(tree)) + faults_of_locals(tree)
    for node in ast.walk(tree):
        found.extend(faults_of_node(node))
    return found


class Language(unittest.TestCase):
    def files(self):
        return sorted(path for path in FOLDER.rglob("*") if "__pycache__" not in path.parts)

    def test_files(self):
        self.assertIn(FOLDER / "__init__.py", self.files())
        for path in self.files():
            self.assertRegex(path.name, r"\A([a-z][a-z0-9_]*|__init__|__main__)\.py\Z")
            self.assertNotRegex(path.name, r"\Atest|\Asite|\Aconftest|\Asitecustomize|\Ausercustomize")

    def test_each_file_keeps_to_the_language(self):
        for path in self.files():
            with self.subTest(file=path.name):
                self.assertEqual(faults(path.read_text(encoding="utf-8")), [])

    def test_no_two_files_draw_from_one_another(self):
        drawn = {}
        for path in self.files():
            nodes = ast.parse(path.read_text(encoding="utf-8")).body
            drawn["truthgrades." + path.stem] = [node.module for node in nodes if isinstance(node, ast.ImportFrom)]
        while drawn:
            free = [name for name in drawn if not any(other in drawn for other in drawn[name])]
            self.assertNotEqual(free, [], drawn)
            for name in free:
                del drawn[name]

    def test_no_name_is_a_method_and_a_value(self):
        methods, values = set(), set()
        for path in self.files():
            tree = ast.parse(path.read_text(encoding="utf-8"))
            methods.update(methods_in(tree))
            values.update(node.attr for node in ast.walk(tree) if isinstance(node, ast.Attribute)
                          and isinstance(node.ctx, ast.Store))
        self.assertIn("name", values)
        self.assertEqual(methods & values, set())
        self.assertEqual(values & {"items", "keys", "values", "pop", "update", "append", "clear", "extend", "args"}, set())

    def test_faults_are_seen(self):
        for text in (
            "import math\n", "from truthgrades.errors import *\n", "from .errors import NoTable\n", "x = 1.0\n",
            "def f(*a):\n    return a\n", "def f(a):\n    return a / 2\n", "def f(a):\n    return {b for b in a}\n",
            "def f(a):\n    with a:\n        pass\n", "def f(a):\n    assert a\n", "def f(a):\n    return 2 ** a\n",
            "def f(a):\n    return a.sort()\n", "def f(a):\n    return hash(a)\n", "def f(id):\n    return id\n",
            "def f(a):\n    return a.format()\n", "def f(a):\n    return chr(a)\n", "# the type\nx = 1\n", "x = '%'\n",
            "def _f(a):\n    return a\n", "def f(a):\n    return (b for b in a)\n", "x = 1\nx = 2\n", "print(1)\n",
            "def f(a, b):\n    return a is b\n", "def f(a):\n    b = c = a\n    return b\n", "x = '\u00e9'\n",
            "from truthgrades.errors import NoTable\ndef f(NoTable):\n    return NoTable\n",
            "from truthgrades.gradings import grade\ndef f(a):\n    return [grade for grade in a]\n",
            "def f(a):\n" + "    a = a\n" * 40, "def f(a):\n    return [c for b in a for c in b]\n",
        ):
            with self.subTest(text=text):
                self.assertNotEqual(faults(text), [])


if __name__ == "__main__":
    unittest.main()
