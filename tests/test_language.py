"""The package keeps to the small part of Python that is told rule by rule, L1 to L28.

Looked at here is what the tree of a file shows plainly; the rest is for whoever reads the file.
"""

import ast
import builtins
import pathlib
import re
import unittest

PACKAGE = pathlib.Path(__file__).resolve().parent.parent / "deedwright"

NODES = """Module Expr Assign AugAssign If While For Return Break Continue Pass Raise Try ExceptHandler
    FunctionDef ClassDef ImportFrom Import alias arguments arg keyword Lambda Call Attribute Subscript Slice Name
    Load Store Constant List Tuple Dict Set ListComp comprehension IfExp BinOp UnaryOp BoolOp Compare JoinedStr
    FormattedValue Add Sub Mult FloorDiv Mod Pow LShift RShift BitOr BitXor BitAnd Invert Not USub UAdd And Or
    Eq NotEq Lt LtE Gt GtE Is IsNot In NotIn""".split()
OWN_NAMES = """len range enumerate zip min max sum abs sorted reversed int str bool list tuple dict set frozenset
    isinstance ord repr any all divmod Exception ValueError TypeError KeyError IndexError LookupError
    ZeroDivisionError ArithmeticError OverflowError RuntimeError NotImplementedError AttributeError
    StopIteration""".split()
METHODS = """append clear copy count endswith extend find get index insert isalnum isalpha isdigit islower isspace
    isupper items join keys ljust lower lstrip partition pop remove replace reverse rfind rjust rpartition rsplit
    rstrip setdefault split splitlines startswith strip update upper values zfill bit_length""".split()
UNDERSCORED = ["__init__", "__eq__", "__repr__", "__str__", "__len__"]
NEVER = "register mro elements open input version_info with_traceback add_note format format_map sort".split()
WORDS = """type typing typing_extensions enum Enum IntEnum StrEnum Flag IntFlag Generic Protocol ABC ABCMeta
    namedtuple NamedTuple TypedDict TYPE_CHECKING abstractmethod""".split()
WITHIN = ["dataclass", "overload", "contextmanager"]
# What an object's value is not called: like a method or value of Python's own values, but for these few.
FREE_VALUES = "count index title find get join lower upper split strip copy add".split()
TAKEN_VALUES = [
    name
    for kind in (str, int, list, dict, set, bytes)
    for name in dir(kind) + ["args", "format"]
    if name not in FREE_VALUES and not name.startswith("_")
]
WALKS = ["zip", "enumerate", "reversed", "range", "items", "keys", "values"]
WALKERS = ["list", "tuple", "dict", "sorted", "sum", "any", "all", "enumerate", "zip"]


def name_faults(name, line):
    if name in UNDERSCORED:
        return []
    if not re.fullmatch(r"[A-Za-z][A-Za-z0-9_]*", name):
        return [("L12", line)]
    return [("L17", line)] if name in NEVER else []


def bound_names(tree):
    """Every name that is given a meaning, with the node that does so."""
    for node in ast.walk(tree):
        if isinstance(node, ast.Name) and isinstance(node.ctx, ast.Store):
            yield node.id, node
        elif isinstance(node, (ast.FunctionDef, ast.ClassDef)):
            yield node.name, node
        elif isinstance(node, ast.arg):
            yield node.arg, node
        elif isinstance(node, ast.ExceptHandler) and node.name:
            yield node.name, node


def methods_of(tree):
    for node in ast.walk(tree):
        if isinstance(node, ast.ClassDef):
            yield from [part for part in node.body if isinstance(part, ast.FunctionDef)]


def text_faults(source):
    for number, row in enumerate(source.split("\n"), start=1):
        if len(row) > 120 or "\t" in row:
            yield "L10", number
        if re.search(r"[^ -~]", row):
            yield "L14", number
        words = re.findall(r"\w+", row)
        if [word for word in words if word in WORDS] or [part for part in WITHIN if part in row]:
            yield "L17", number
    if source.count("\n") > 400:
        yield "L10", 400


def parts_of(node):
    """What a list, tuple or dict that is written out holds; nothing for another node."""
    if isinstance(node, ast.Dict):
        return node.keys + node.values
    return node.elts if isinstance(node, (ast.List, ast.Tuple)) else []


def value_faults(node):
    """Of a value of a file's top."""
    if isinstance(node, ast.UnaryOp) and isinstance(node.op, ast.USub):
        node = node.operand
    if not isinstance(node, (ast.Constant, ast.Name, ast.List, ast.Tuple, ast.Dict)):
        yield "L3", node.lineno
    for part in parts_of(node):
        yield from value_faults(part)
        if isinstance(part, (ast.List, ast.Dict)):
            yield "L15", node.lineno


def top_faults(tree):
    told = {}
    for node in tree.body:
        if isinstance(node, ast.Assign):
            yield from value_faults(node.value)
            names = [target.id for target in node.targets if isinstance(target, ast.Name)]
        elif isinstance(node, (ast.FunctionDef, ast.ClassDef)):
            names = [node.name]
        elif isinstance(node, ast.ImportFrom):
            names = [alias.asname or alias.name for alias in node.names]
        else:
            names = []
            if not (isinstance(node, ast.Expr) and isinstance(node.value, ast.Constant) and node == tree.body[0]):
                yield "L3", node.lineno
        for name in names:
            if name in told:
                yield "L15", node.lineno
            told[name] = True


def defined_names(path):
    """The names that a file defines at its top, without those that it draws from another."""
    names = []
    for node in ast.parse(path.read_text(encoding="utf-8")).body:
        if isinstance(node, (ast.FunctionDef, ast.ClassDef)):
            names.append(node.name)
        elif isinstance(node, ast.Assign):
            names += [target.id for target in node.targets]
    return names


def import_faults(tree):
    for node in ast.walk(tree):
        if isinstance(node, ast.Import):
            yield "L16", node.lineno
        elif isinstance(node, ast.ImportFrom):
            if node.level or not re.fullmatch(r"deedwright\.[a-z0-9_]+", node.module) or node not in tree.body:
                yield "L2", node.lineno
                continue
            path = PACKAGE / (node.module.split(".")[1] + ".py")
            names = defined_names(path) if path.exists() else []
            if [alias for alias in node.names if alias.name not in names]:
                yield "L16", node.lineno


def local_faults(tree):
    """Names of Python's own, of an import or of a class that are given another meaning."""
    taken = [node.name for node in ast.walk(tree) if isinstance(node, ast.ClassDef)]
    for node in tree.body:
        if isinstance(node, ast.ImportFrom):
            taken += [alias.asname or alias.name for alias in node.names]
    methods = list(methods_of(tree))
    for name, node in bound_names(tree):
        yield from name_faults(name, node.lineno)
        if node in methods:
            continue
        if hasattr(builtins, name):
            yield "L15", node.lineno
        elif name in taken and not isinstance(node, ast.ClassDef):
            yield "L15", node.lineno


def function_faults(node):
    if node.end_lineno - node.lineno >= 40:
        yield "L10", node.lineno
    args = node.args
    if node.decorator_list or args.vararg or args.kwarg or args.kwonlyargs or args.posonlyargs:
        yield "L4", node.lineno
    if [default for default in args.defaults if not isinstance(default, (ast.Constant, ast.UnaryOp, ast.Tuple))]:
        yield "L4", node.lineno


def class_faults(node):
    if node.decorator_list or node.keywords or len(node.bases) > 1:
        yield "L5", node.lineno
    for part in node.body:
        is_docstring = isinstance(part, ast.Expr) and isinstance(part.value, ast.Constant)
        if not is_docstring and not isinstance(part, (ast.FunctionDef, ast.Pass)):
            yield "L5", part.lineno


def call_faults(node, methods):
    if isinstance(node.func, ast.Attribute) and node.func.attr not in METHODS + UNDERSCORED + methods:
        yield "L25", node.lineno
    if isinstance(node.func, ast.Name) and node.func.id in OWN_NAMES:
        if [part for part in node.keywords if part.arg not in ("key", "reverse", "default", "start", "strict")]:
            yield "L22", node.lineno


def except_faults(node):
    caught = [part.id for part in ast.walk(node.type) if isinstance(part, ast.Name)] if node.type else ["Exception"]
    if "Exception" in caught or "TypeError" in caught:
        yield "L19", node.lineno


def constant_faults(node):
    if isinstance(node.value, (float, complex, bytes)):
        yield "L7", node.lineno
    if isinstance(node.value, str) and "%" in node.value:
        yield "L27", node.lineno


def compare_faults(node):
    for operator, side in zip(node.ops, node.comparators):
        single = isinstance(side, ast.Constant) and (side.value is None or isinstance(side.value, bool))
        if isinstance(operator, (ast.Is, ast.IsNot)) and not single:
            yield "L20", node.lineno


def node_faults(node, methods):
    if type(node).__name__ not in NODES:
        yield "L7", getattr(node, "lineno", 0)
    if isinstance(node, ast.FunctionDef):
        yield from function_faults(node)
    if isinstance(node, ast.ClassDef):
        yield from class_faults(node)
    if isinstance(node, ast.Call):
        yield from call_faults(node, methods)
    if isinstance(node, ast.ExceptHandler):
        yield from except_faults(node)
    if isinstance(node, ast.Constant):
        yield from constant_faults(node)
    if isinstance(node, ast.Compare):
        yield from compare_faults(node)
    if isinstance(node, ast.Attribute):
        yield from name_faults(node.attr, node.lineno)
    if isinstance(node, ast.Name) and hasattr(builtins, node.id) and node.id not in OWN_NAMES:
        yield "L8", node.lineno
    if isinstance(node, ast.ListComp) and (len(node.generators) > 1 or len(node.generators[0].ifs) > 1):
        yield "L7", node.lineno
    if isinstance(node, ast.Try) and node.finalbody or isinstance(node, (ast.For, ast.While)) and node.orelse:
        yield "L6", node.lineno
    if isinstance(node, ast.Assign) and len(node.targets) > 1:
        yield "L6", node.lineno


def called_name(node):
    """The name of the function or method that a call calls; None for another node."""
    if not isinstance(node, ast.Call):
        return None
    return getattr(node.func, "id", None) or getattr(node.func, "attr", None)


def is_walked(node, parent):
    """Whether a zip, a range or its like is walked on the spot."""
    if isinstance(parent, (ast.For, ast.comprehension)):
        return parent.iter == node
    if called_name(parent) in ("min", "max"):
        return parent.args == [node]
    if called_name(parent) == "join":
        return isinstance(parent.func.value, ast.Constant)
    return called_name(parent) in WALKERS and (called_name(parent) == "zip" or parent.args[0] == node)


def is_set_asked(node, parent):
    """Whether a set is made just to be asked, sorted or counted."""
    if isinstance(parent, ast.Compare):
        return all(isinstance(part, (ast.In, ast.NotIn, ast.Eq, ast.NotEq)) for part in parent.ops)
    if isinstance(parent, ast.BinOp):
        return isinstance(parent.op, (ast.Sub, ast.BitAnd, ast.BitOr, ast.BitXor))
    return called_name(parent) in ("sorted", "len") and not parent.keywords


def pair_faults(parent, node):
    """Of a node, for what it stands in."""
    if called_name(node) in WALKS and not is_walked(node, parent):
        yield "L23", node.lineno
    if (called_name(node) in ("set", "frozenset") or isinstance(node, ast.Set)) and not is_set_asked(node, parent):
        yield "L24", node.lineno
    if isinstance(node, ast.Attribute) and node.attr in METHODS and getattr(parent, "func", None) != node:
        yield "L25", node.lineno
    if isinstance(node, ast.FormattedValue) and (node.format_spec or not isinstance(node.value, ast.Name)):
        yield "L7", node.lineno
    if isinstance(node, ast.BinOp) and isinstance(node.op, ast.Pow) and not isinstance(node.right, ast.Constant):
        yield "L27", node.lineno


def kept_lists(tree):
    """The names of the lists and dicts of a file's top."""
    tops = [node for node in tree.body if isinstance(node, ast.Assign) and isinstance(node.value, (ast.List, ast.Dict))]
    return [node.targets[0].id for node in tops]


def is_only_read(node, parent):
    """Whether a list or dict of a file's top is but read where it stands."""
    if isinstance(parent, ast.Subscript):
        return parent.value == node and isinstance(parent.ctx, ast.Load)
    if isinstance(parent, ast.Attribute):
        return parent.attr in ("get", "items", "keys", "values", "index", "count")
    if isinstance(parent, (ast.For, ast.comprehension)):
        return parent.iter == node
    return isinstance(parent, ast.Compare) or called_name(parent) in WALKERS + ["len", "min", "max", "reversed"]


def kept_faults(tree):
    """Of the lists and dicts of a file's top, which are read alone."""
    names = kept_lists(tree)
    for parent in ast.walk(tree):
        for node in ast.iter_child_nodes(parent):
            named = isinstance(node, ast.Name) and node.id in names and isinstance(node.ctx, ast.Load)
            if named and not is_only_read(node, parent):
                yield "L15", node.lineno


def object_values(tree):
    """The names of the values that objects are given, with the nodes that do so."""
    for node in ast.walk(tree):
        if isinstance(node, ast.Attribute) and isinstance(node.ctx, ast.Store):
            yield node.attr, node


def object_faults(tree, methods):
    """Of the values of objects: their names, and through what they are given."""
    classes = [node.name for node in ast.walk(tree) if isinstance(node, ast.ClassDef)]
    for name, node in object_values(tree):
        if name in TAKEN_VALUES:
            yield "L26", node.lineno
        if name in methods or isinstance(node.value, ast.Name) and node.value.id in classes:
            yield "L18", node.lineno


def faults(source, methods=()):
    """The rules that a file breaks, with the rows; methods are those of the whole package's classes."""
    tree = ast.parse(source)
    own_methods = list(methods) + [part.name for part in methods_of(tree)]
    found = list(text_faults(source)) + list(top_faults(tree)) + list(import_faults(tree)) + list(local_faults(tree))
    found += list(kept_faults(tree)) + list(object_faults(tree, own_methods))
    for node in ast.walk(tree):
        found += node_faults(node, own_methods)
        for part in ast.iter_child_nodes(node):
            found += pair_faults(node, part)
    return found


BROKEN = (
    ("L2", "from .errors import NoText\n"),
    ("L2", "from os import path\n"),
    ("L3", "print(1)\n"),
    ("L3", "a = len('x')\n"),
    ("L4", "def f(*a):\n    return a\n"),
    ("L4", "def f(a=[]):\n    return a\n"),
    ("L5", "class A:\n    x = 1\n"),
    ("L6", "def f(a):\n    b = c = a\n    return b + c\n"),
    ("L7", "def f(a):\n    assert a\n"),
    ("L7", "def f(a):\n    return a / 2\n"),
    ("L7", "def f(a):\n    return [x for y in a for x in y]\n"),
    ("L7", "def f(a):\n    return all(x for x in a)\n"),
    ("L7", "def f(a):\n    return f'{a[0]}'\n"),
    ("L7", "def f(a):\n    return f'{a:3}'\n"),
    ("L8", "def f(a):\n    return map(f, a)\n"),
    ("L8", "def f(a):\n    return chr(a)\n"),
    ("L10", "def f(a):\n" + "    a = a + 1\n" * 40),
    ("L10", "a = 1\n" * 401),
    ("L12", "def f(_a):\n    return 1\n"),
    ("L14", "a = '\u00e9'\n"),
    ("L15", "a = 1\na = 2\n"),
    ("L15", "a = [[1]]\n"),
    ("L15", "def f(id):\n    return 1\n"),
    ("L15", "from deedwright.errors import NoText\n\n\ndef f(NoText):\n    return 1\n"),
    ("L16", "import sys\n"),
    ("L16", "from deedwright.errors import nothing\n"),
    ("L16", "from deedwright.reader import NoText\n"),
    ("L15", "a = [1]\n\n\ndef f():\n    a.append(2)\n"),
    ("L15", "a = {1: 2}\n\n\ndef f():\n    a[1] = 2\n"),
    ("L15", "a = {1: 2}\n\n\ndef f():\n    return a\n"),
    ("L15", "a = {1: 2}\n\n\ndef f():\n    b = a\n    return f(a)\n"),
    ("L17", "# the type of it\n"),
    ("L17", "def f(a):\n    a.sort()\n"),
    ("L18", "class A:\n    pass\n\n\ndef f():\n    A.x = 1\n"),
    ("L18", "class A:\n    def say(self):\n        return 1\n\n\ndef f(a):\n    a.say = 1\n"),
    ("L19", "def f(a):\n    try:\n        return a[0]\n    except Exception:\n        return 1\n"),
    ("L20", "def f(a, b):\n    return a is b\n"),
    ("L23", "def f(a):\n    b = reversed(a)\n    return list(b)\n"),
    ("L23", "def f(a, b):\n    a.extend(reversed(b))\n"),
    ("L23", "def f(a):\n    return len(a.items())\n"),
    ("L24", "def f(a):\n    b = set(a)\n    return 1 in b\n"),
    ("L24", "def f(a):\n    for b in {1, a}:\n        return b\n"),
    ("L25", "def f(a):\n    return a.casefold()\n"),
    ("L25", "def f(a):\n    b = a.append\n    return b\n"),
    ("L26", "class A:\n    def __init__(self):\n        self.items = 1\n"),
    ("L26", "def f(a):\n    a.args = 1\n"),
    ("L27", "a = '%'\n"),
    ("L27", "def f(a):\n    return 2 ** a\n"),
)
KEPT = (
    "def f(a):\n    return sorted(set(a) - set([1]))\n",
    "def f(a):\n    return [k for k in reversed(a) if k in set(a)]\n",
    "def f(a, b):\n    a.extend(list(reversed(b)))\n",
    "def f(a, b):\n    return dict(zip(a, b))\n",
    "def f(a):\n    return f'{a} {a!r}'\n",
    "def f(a):\n    return ' '.join(a.keys())\n",
    "a = {1: 2}\n\n\ndef f(b):\n    return a[b] if b in a else dict(a)\n",
    "def f(a):\n    return a\n\n\nb = {1: f}\n\n\ndef g(c):\n    return b[c](c)\n",
)


class Language(unittest.TestCase):
    def test_the_checks_find_what_is_broken(self):
        for rule, source in BROKEN:
            with self.subTest(source=source[:60]):
                self.assertIn(rule, [found for found, line in faults(source)])

    def test_the_checks_let_by_what_is_kept_to(self):
        for source in KEPT:
            with self.subTest(source=source):
                self.assertEqual(faults(source), [])

    def test_the_folder_holds_files_of_the_package_alone(self):
        for path in PACKAGE.iterdir():
            if path.name != "__pycache__":
                self.assertRegex(path.name, r"\A(__init__|__main__|[a-z][a-z0-9_]*)\.py\Z")

    def test_every_file(self):
        paths = sorted(PACKAGE.glob("*.py"))
        methods = [part.name for path in paths for part in methods_of(ast.parse(path.read_text(encoding="utf-8")))]
        for path in paths:
            with self.subTest(path=path.name):
                self.assertEqual(faults(path.read_text(encoding="utf-8"), methods), [])

    def test_no_two_files_draw_from_one_another(self):
        draws = {}
        for path in PACKAGE.glob("*.py"):
            rows = re.findall(r"^from deedwright\.(\w+) import", path.read_text(encoding="utf-8"), re.MULTILINE)
            draws[path.stem] = rows
        while draws:
            free = [name for name in draws if not [other for other in draws[name] if other in draws]]
            self.assertTrue(free, draws)
            for name in free:
                draws.pop(name)


if __name__ == "__main__":
    unittest.main()
