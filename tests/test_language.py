"""Holds the package against the part of LANGUAGE.md that can be seen file by file; not every rule is here."""

import ast
import builtins
import pathlib
import re
import unittest

PACKAGE = "probewell"
ROOT = pathlib.Path(__file__).resolve().parent.parent

NODES = (
    ast.Module, ast.FunctionDef, ast.ClassDef, ast.arguments, ast.arg, ast.ImportFrom, ast.alias,
    ast.Assign, ast.AugAssign, ast.If, ast.While, ast.For, ast.Return, ast.Break, ast.Continue, ast.Pass, ast.Raise,
    ast.Try, ast.ExceptHandler, ast.Expr, ast.Lambda, ast.Constant, ast.List, ast.Tuple, ast.Dict, ast.Set,
    ast.BinOp, ast.UnaryOp, ast.BoolOp, ast.Compare, ast.IfExp, ast.Call, ast.keyword, ast.Attribute, ast.Subscript,
    ast.Slice, ast.ListComp, ast.comprehension, ast.JoinedStr, ast.FormattedValue, ast.Name,
    ast.expr_context, ast.operator, ast.unaryop, ast.boolop, ast.cmpop,
)
OWN_NAMES = """len range enumerate zip min max sum abs sorted reversed int str bool list tuple dict set frozenset
    isinstance ord repr any all divmod Exception ValueError TypeError KeyError IndexError LookupError
    ZeroDivisionError ArithmeticError OverflowError RuntimeError NotImplementedError StopIteration""".split()
OWN_METHODS = """append clear copy count endswith extend find get index insert isalnum isalpha isdigit islower isspace
    isupper items join keys ljust lower lstrip partition pop remove replace reverse rfind rjust rpartition rsplit
    rstrip setdefault split splitlines startswith strip update upper values zfill bit_length add discard""".split()
ALL_METHODS = {name for kind in (str, int, list, tuple, dict, set, bytes) for name in dir(kind)}
DUNDER_METHODS = ["__init__", "__eq__", "__repr__", "__str__", "__len__"]
WALKS = ["zip", "enumerate", "reversed", "range"]
WALKING_METHODS = ["items", "keys", "values"]
WALKERS = ["list", "tuple", "dict", "sorted", "sum", "any", "all", "enumerate", "zip"]
BARRED_WORDS = re.compile(
    r"\b(type|typing|typing_extensions|enum|Enum|IntEnum|StrEnum|Flag|IntFlag|Generic|Protocol|ABC|ABCMeta|namedtuple"
    r"|NamedTuple|TypedDict|TYPE_CHECKING|abstractmethod)\b|dataclass|overload|contextmanager")
BARRED_NAMES = """register mro elements open input version_info with_traceback add_note format format_map chr float
    bytes object attrgetter breakpoint builtins compile copyright credits delattr dir eval exec exit gc getattr globals
    hasattr help id importlib license locals methodcaller os quit setattr super vars sys""".split()


def seen_in_text(text):
    found = []
    if not all(sign == "\n" or " " <= sign <= "~" for sign in text):
        found.append("L14 a sign that is not allowed")
    if BARRED_WORDS.search(text):
        found.append("L17 a word that is not allowed")
    if len(text.splitlines()) > 400:
        found.append("L10 a long file")
    if any(len(line) > 120 for line in text.splitlines()):
        found.append("L10 a long line")
    return found


def seen_in_node(node):
    if not isinstance(node, NODES):
        return ["L6, L7 " + node.__class__.__name__]
    by_kind = {
        ast.FunctionDef: seen_in_function, ast.ClassDef: seen_in_class, ast.ImportFrom: seen_in_import,
        ast.Name: seen_in_name, ast.arg: seen_in_name, ast.Attribute: seen_in_attribute, ast.Compare: seen_in_compare,
        ast.ExceptHandler: seen_in_handler, ast.Constant: seen_in_constant, ast.BinOp: seen_in_operation,
        ast.ListComp: seen_in_comprehension, ast.For: seen_in_loop, ast.While: seen_in_loop, ast.Try: seen_in_try,
        ast.Assign: seen_in_assignment,
    }
    return by_kind.get(node.__class__, lambda other: [])(node)


def seen_in_function(node):
    found = []
    if node.end_lineno - node.lineno >= 40:
        found.append("L10 a long function")
    given = node.args
    if node.decorator_list or given.vararg or given.kwarg or given.kwonlyargs or given.posonlyargs:
        found.append("L4 a function that is not plain")
    if node.name.startswith("_") and node.name not in DUNDER_METHODS:
        found.append("L12 " + node.name)
    return found


def seen_in_class(node):
    if node.decorator_list or node.keywords or len(node.bases) > 1:
        return ["L5 a class that is not plain"]
    inner = [part for part in node.body if not isinstance(part, (ast.FunctionDef, ast.Pass))]
    return ["L5 a value in a class"] if inner else []


def seen_in_import(node):
    own = node.level == 0 and (node.module or "").startswith(PACKAGE + ".")
    plain = all(part.name != "*" for part in node.names)
    return [] if own and plain else ["L2, L16 an import"]


def seen_in_name(node):
    name = node.arg if isinstance(node, ast.arg) else node.id
    if name.startswith("_") or name in BARRED_NAMES:
        return ["L12, L17 " + name]
    bound = isinstance(node, ast.arg) or isinstance(node.ctx, ast.Store)
    if bound and hasattr(builtins, name):
        return ["L15 " + name]
    if hasattr(builtins, name) and name not in OWN_NAMES:
        return ["L8 " + name]
    return []


def seen_in_attribute(node):
    name = node.attr
    if name in BARRED_NAMES or name.startswith("_") and name != "__init__":
        return ["L8, L17 " + name]
    if name in ALL_METHODS and name not in OWN_METHODS and name != "__init__":
        return ["L25 " + name]
    return []


def seen_in_compare(node):
    sides = [node.left] + node.comparators
    for place, sign in enumerate(node.ops):
        by_kind = isinstance(sign, (ast.Is, ast.IsNot))
        beside = sides[place + 1]
        if by_kind and not (isinstance(beside, ast.Constant) and beside.value in (None, True, False)):
            return ["L20 is"]
    return []


def seen_in_handler(node):
    taken = ast.unparse(node.type) if node.type else ""
    return ["L19 except " + taken] if taken in ("", "Exception", "TypeError") else []


def seen_in_constant(node):
    if isinstance(node.value, (float, complex, bytes)):
        return ["L7 a value of another kind"]
    return ["L27 a sign in a text"] if isinstance(node.value, str) and "%" in node.value else []


def seen_in_operation(node):
    if isinstance(node.op, (ast.Div, ast.MatMult)):
        return ["L7 /"]
    if isinstance(node.op, ast.Pow):
        top = node.right.value if isinstance(node.right, ast.Constant) else None
        return [] if top in range(65) else ["L27 **"]
    return []


def seen_in_comprehension(node):
    plain = len(node.generators) == 1 and len(node.generators[0].ifs) <= 1
    return [] if plain else ["L7 a list comprehension"]


def seen_in_loop(node):
    return ["L6 else behind a loop"] if node.orelse else []


def seen_in_try(node):
    return ["L6 finally"] if node.finalbody else []


def seen_in_assignment(node):
    return ["L6 two targets"] if len(node.targets) > 1 else []


def seen_at_top(tree):
    found = []
    for place, node in enumerate(tree.body):
        docstring = place == 0 and isinstance(node, ast.Expr) and isinstance(node.value, ast.Constant)
        plain = isinstance(node, (ast.FunctionDef, ast.ClassDef, ast.ImportFrom)) or docstring
        if isinstance(node, ast.Assign):
            plain = not [part for part in ast.walk(node.value) if isinstance(part, (ast.Call, ast.BinOp, ast.Set))]
        if not plain:
            found.append("L3 the top of a file")
    bare = [node for node in ast.walk(tree) if isinstance(node, ast.Expr) and not isinstance(node.value, ast.Call)]
    if [node for node in bare if node != tree.body[0]]:
        found.append("L6 a value by itself")
    return found


def seen_in_bindings(tree):
    taken = [node.name for node in tree.body if isinstance(node, ast.ClassDef)]
    for node in tree.body:
        taken += [part.asname or part.name for part in node.names] if isinstance(node, ast.ImportFrom) else []
    bound = [node.arg for node in ast.walk(tree) if isinstance(node, ast.arg)]
    bound += [node.id for node in ast.walk(tree) if isinstance(node, ast.Name) and isinstance(node.ctx, ast.Store)]
    return ["L15 called like an import or a class: " + name for name in bound if name in taken]


def is_walk(node):
    called = node.func if isinstance(node, ast.Call) else None
    return (isinstance(called, ast.Name) and called.id in WALKS
            or isinstance(called, ast.Attribute) and called.attr in WALKING_METHODS)


def seen_in_walks(tree):
    walked = []
    for node in ast.walk(tree):
        if isinstance(node, (ast.For, ast.comprehension)):
            walked.append(node.iter)
        elif isinstance(node, ast.Call) and node.args:
            name = node.func.id if isinstance(node.func, ast.Name) else ""
            alone = name in ("min", "max") and len(node.args) == 1
            joined = (isinstance(node.func, ast.Attribute) and node.func.attr == "join"
                      and isinstance(node.func.value, ast.Constant))
            walked += node.args[:1] if name in WALKERS or alone or joined else []
    kept = [node for node in ast.walk(tree) if is_walk(node) and node not in walked]
    return [f"L23 kept, not walked at once (row {node.lineno})" for node in kept]


def seen(text):
    tree = ast.parse(text)
    found = seen_in_text(text) + seen_at_top(tree) + seen_in_bindings(tree) + seen_in_walks(tree)
    for node in ast.walk(tree):
        found += [f"{fault} (row {getattr(node, 'lineno', 0)})" for fault in seen_in_node(node)]
    return found


def files():
    return sorted((ROOT / PACKAGE).rglob("*.py"))


def drawn_from(path):
    tree = ast.parse(path.read_text())
    return [node for node in tree.body if isinstance(node, ast.ImportFrom)]


class Language(unittest.TestCase):
    def test_files_keep_to_the_rules(self):
        for path in files():
            with self.subTest(path.name):
                self.assertEqual(seen(path.read_text(encoding="utf-8")), [])

    def test_nothing_else_lies_in_the_package(self):
        for path in (ROOT / PACKAGE).rglob("*"):
            if path.name != "__pycache__" and path.parent.name != "__pycache__":
                self.assertRegex(path.name, r"^(__init__|__main__|[a-z][a-z0-9_]*)\.py$")

    def test_names_are_drawn_from_the_file_that_defines_them(self):
        for path in files():
            for row in drawn_from(path):
                source = ROOT / (row.module.replace(".", "/") + ".py")
                body = ast.parse(source.read_text()).body
                defined = [node.name for node in body if isinstance(node, (ast.FunctionDef, ast.ClassDef))]
                defined += [node.targets[0].id for node in body if isinstance(node, ast.Assign)]
                for part in row.names:
                    self.assertIn(part.name, defined, path.name)

    def test_no_two_files_draw_from_one_another(self):
        left = {f"{PACKAGE}.{path.stem}": [row.module for row in drawn_from(path)] for path in files()}
        while left:
            free = [name for name in left if not [other for other in left[name] if other in left]]
            self.assertTrue(free, f"drawn from one another: {sorted(left)}")
            left = {name: left[name] for name in left if name not in free}

    def test_faults_are_seen(self):
        faults = [
            "import os\n", "from os import path\n", "from probewell.walks import *\n", "x = 10 ** 60\n",
            "def f(*rest):\n    pass\n", "def f(a):\n    return a / 2\n", "def f(a, b):\n    return a is b\n",
            "def f(next):\n    pass\n", "def f(a):\n    return a.sort()\n", "def f(a):\n    return 2 ** a\n",
            "def f():\n    return 0.5\n", "def f():\n    with a:\n        pass\n", "def f(a):\n    a = b = 1\n",
            "def f():\n    try:\n        f()\n    except Exception:\n        pass\n", "class A:\n    x = 1\n",
            "def f(a):\n    return {b for b in a}\n", "def f(a):\n    return map(f, a)\n", "# the type\n",
            "def f():\n    '''Words.'''\n    return 1\n", "def f():\n" + "    f()\n" * 40, "x = 1" + " " * 120 + "\n",
            "def hidden(_a):\n    pass\n", "x = '\u00e4'\n",
            "def f():\n    for a in b:\n        pass\n    else:\n        f()\n",
            "from probewell.errors import NoState\n\n\ndef f(NoState):\n    pass\n",
            "from probewell.reach import ways\n\n\ndef f(a):\n    ways = a\n",
            "def f(a):\n    b = range(a)\n", "def f(a):\n    return a in range(3)\n",
            "def f(a):\n    return a.items()\n",
        ]
        for text in faults:
            with self.subTest(text):
                self.assertNotEqual(seen(text), [])


if __name__ == "__main__":
    unittest.main()
