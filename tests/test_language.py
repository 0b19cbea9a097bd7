"""Looks through a package file for what ../shared/LANGUAGE.md rules out, as far as a plain walk can see it."""

import ast
import builtins
import pathlib
import re
import unittest

PACKAGE = pathlib.Path(__file__).resolve().parent.parent / "framering"
FILES = sorted(PACKAGE.glob("*.py"))

OWN_NAMES = set(
    "len range enumerate zip min max sum abs sorted reversed int str bool list tuple dict set frozenset isinstance ord "
    "repr any all divmod Exception ValueError TypeError KeyError IndexError LookupError ZeroDivisionError "
    "ArithmeticError OverflowError RuntimeError NotImplementedError AttributeError StopIteration".split())

METHODS = set(
    "append clear copy count endswith extend find get index insert isalnum isalpha isdigit islower isspace isupper "
    "items join keys ljust lower lstrip partition pop remove replace reverse rfind rjust rpartition rsplit rstrip setdefault "
    "split splitlines startswith strip update upper values zfill bit_length".split())

OUT_AS_VALUES = set(
    "items keys values pop update append clear extend insert remove reverse setdefault sort args encode format".split())

OUT_ANYWHERE = set("register mro elements open input version_info with_traceback add_note format format_map".split())

OUT_WORDS = re.compile(
    r"\b(type|typing|typing_extensions|enum|Enum|IntEnum|StrEnum|Flag|IntFlag|Generic|Protocol|ABC|ABCMeta|namedtuple|"
    r"NamedTuple|TypedDict|TYPE_CHECKING|abstractmethod)\b|dataclass|overload|contextmanager")

NODES = (
    ast.Module, ast.FunctionDef, ast.ClassDef, ast.ImportFrom, ast.alias, ast.arguments, ast.arg, ast.Assign,
    ast.AugAssign, ast.If, ast.While, ast.For, ast.Return, ast.Break, ast.Continue, ast.Pass, ast.Raise, ast.Try,
    ast.ExceptHandler, ast.Expr, ast.Constant, ast.List, ast.Tuple, ast.Dict, ast.BinOp, ast.UnaryOp, ast.BoolOp,
    ast.Compare, ast.IfExp, ast.Call, ast.keyword, ast.Attribute, ast.Subscript, ast.Slice, ast.ListComp,
    ast.comprehension, ast.JoinedStr, ast.FormattedValue, ast.Lambda, ast.Name, ast.expr_context, ast.operator,
    ast.unaryop, ast.boolop, ast.cmpop)

WALKED = ("zip", "enumerate", "reversed", "range", "items", "keys", "values")
WALKERS = ("list", "tuple", "dict", "sorted", "sum", "any", "all", "enumerate", "zip", "min", "max", "join")

UNDERSCORED = ("__init__", "__eq__", "__repr__", "__str__", "__len__")


def faults(text):
    tree = ast.parse(text)
    found = text_faults(text) + top_faults(tree)
    for node in ast.walk(tree):
        found += node_faults(node)
    return found + walk_faults(tree) + own_faults(tree)


def text_faults(text):
    found = []
    if len(text.split("\n")) > 401:
        found.append("L10 file too long")
    for at, line in enumerate(text.split("\n"), start=1):
        if len(line) > 120:
            found.append(f"L10 line {at} too long")
        if any(not " " <= sign <= "~" for sign in line):
            found.append(f"L14 sign in line {at}")
        if OUT_WORDS.search(line):
            found.append(f"L17 word in line {at}")
    return found


def top_faults(tree):
    found = []
    bound = []
    for at, node in enumerate(tree.body):
        docstring = at == 0 and isinstance(node, ast.Expr) and isinstance(node.value, ast.Constant)
        if isinstance(node, (ast.FunctionDef, ast.ClassDef)):
            bound.append(node.name)
        elif isinstance(node, ast.ImportFrom):
            bound += [alias.asname or alias.name for alias in node.names]
        elif isinstance(node, ast.Assign):
            bound += [target.id for target in node.targets]
            if not is_plain(node.value):
                found.append(f"L3 line {node.lineno}: no plain value")
        elif not docstring:
            found.append(f"L3 line {node.lineno}: not for a file's top")
    return found + [f"L15 {name} bound twice" for name in set(bound) if bound.count(name) > 1]


def is_plain(node):
    if isinstance(node, (ast.List, ast.Tuple)):
        return all(is_plain(part) for part in node.elts)
    if isinstance(node, ast.Dict):
        return all(is_plain(part) for part in node.keys + node.values)
    if isinstance(node, ast.UnaryOp):
        return isinstance(node.op, ast.USub) and isinstance(node.operand, ast.Constant)
    return isinstance(node, ast.Constant)


def node_faults(node):
    where = f"line {getattr(node, 'lineno', 0)}"
    if not isinstance(node, NODES):
        return [f"L6/L7 {where}: {type(node).__name__}"]
    if isinstance(node, ast.ImportFrom):
        good = node.level == 0 and node.module.startswith("framering.") and node.names[0].name != "*"
        return [] if good else [f"L2 {where}: import"]
    if isinstance(node, ast.FunctionDef):
        return function_faults(node, where)
    if isinstance(node, ast.ClassDef):
        return class_faults(node, where)
    if isinstance(node, (ast.For, ast.While, ast.Try)):
        late = getattr(node, "finalbody", []) or (not isinstance(node, ast.Try) and node.orelse)
        return [f"L6 {where}: else or finally"] if late else []
    if isinstance(node, ast.Assign):
        plain = (ast.Name, ast.Attribute, ast.Subscript)
        return [] if len(node.targets) == 1 and isinstance(node.targets[0], plain) else [f"L6 {where}: targets"]
    return value_faults(node, where)


def value_faults(node, where):
    if isinstance(node, ast.Constant) and isinstance(node.value, (float, bytes, complex, type(...))):
        return [f"L7 {where}: constant"]
    if isinstance(node, ast.Constant) and isinstance(node.value, str) and "%" in node.value:
        return [f"L27 {where}: sign in a text"]
    if isinstance(node, (ast.Div, ast.MatMult)):
        return ["L7 a division or product that is out"]
    if isinstance(node, ast.BinOp) and isinstance(node.op, ast.Pow) and not isinstance(node.right, ast.Constant):
        return [f"L27 {where}: power"]
    if isinstance(node, ast.Compare) and any(isinstance(op, (ast.Is, ast.IsNot)) for op in node.ops):
        beside = getattr(node.comparators[0], "value", 0)
        return [] if any(beside is allowed for allowed in (None, True, False)) else [f"L20 {where}: is"]
    if isinstance(node, ast.ListComp) and (len(node.generators) > 1 or len(node.generators[0].ifs) > 1):
        return [f"L7 {where}: comprehension"]
    if isinstance(node, ast.Name):
        return name_faults(node, where)
    if isinstance(node, ast.Attribute):
        bad = node.attr.startswith("_") and node.attr not in UNDERSCORED
        return [f"L12/L17 {where}: {node.attr}"] if bad or node.attr in OUT_ANYWHERE else []
    if isinstance(node, (ast.arg, ast.keyword)) and node.arg.startswith("_"):
        return [f"L12 {where}: {node.arg}"]
    if isinstance(node, ast.arg) and node.arg in dir(builtins):
        return [f"L15 {where}: {node.arg}"]
    return []


def name_faults(node, where):
    own = node.id in dir(builtins)
    stored = isinstance(node.ctx, ast.Store)
    if node.id.startswith("_") or node.id in OUT_ANYWHERE:
        return [f"L12/L17 {where}: {node.id}"]
    if own and (stored or node.id not in OWN_NAMES):
        return [f"L8/L15 {where}: {node.id}"]
    return []


def function_faults(node, where):
    found = []
    given = node.args
    if given.vararg or given.kwarg or given.kwonlyargs or given.posonlyargs or node.decorator_list:
        found.append(f"L4 {where}: {node.name}")
    if node.end_lineno - node.lineno + 1 > 40:
        found.append(f"L10 {where}: {node.name} too long")
    if node.name.startswith("_") and node.name not in UNDERSCORED:
        found.append(f"L12 {where}: {node.name}")
    return found


def class_faults(node, where):
    only_methods = all(isinstance(part, ast.FunctionDef) for part in node.body)
    plain = only_methods and len(node.bases) <= 1 and not node.keywords and not node.decorator_list
    return [] if plain else [f"L5 {where}: {node.name}"]


def called_name(node):
    if not isinstance(node, ast.Call):
        return None
    return node.func.id if isinstance(node.func, ast.Name) else node.func.attr


def walk_faults(tree):
    fine = []
    for node in ast.walk(tree):
        if isinstance(node, (ast.For, ast.comprehension)):
            fine.append(node.iter)
        elif called_name(node) in WALKERS:
            fine += node.args
    return [f"L23 line {node.lineno}: {called_name(node)}" for node in ast.walk(tree)
            if called_name(node) in WALKED and node not in fine]


def methods_and_values(tree):
    methods = set()
    for node in ast.walk(tree):
        if isinstance(node, ast.ClassDef):
            methods |= {part.name for part in node.body if isinstance(part, ast.FunctionDef)}
    attributes = [node for node in ast.walk(tree) if isinstance(node, ast.Attribute)]
    stored = {node.attr for node in attributes if isinstance(node.ctx, ast.Store)}
    return methods, stored


def own_faults(tree):
    methods, stored = methods_and_values(tree)
    return [f"L26 value {name}" for name in sorted(stored & OUT_AS_VALUES)]


def called_methods(tree):
    return {node.func.attr for node in ast.walk(tree)
            if isinstance(node, ast.Call) and isinstance(node.func, ast.Attribute)}


def trees():
    return {path.stem: ast.parse(path.read_text()) for path in FILES}


def drawn_from(tree):
    return [node.module.partition(".")[2] for node in tree.body if isinstance(node, ast.ImportFrom)]


class Package(unittest.TestCase):
    def test_only_plain_files_lie_in_it(self):
        names = [path.name for path in PACKAGE.iterdir() if path.name != "__pycache__"]
        self.assertEqual([name for name in names if not re.fullmatch(r"[a-z][a-z0-9_]*\.py|__init__\.py", name)], [])
        self.assertIn("__init__.py", names)

    def test_each_file_keeps_to_the_rules(self):
        for path in FILES:
            self.assertEqual(faults(path.read_text()), [], path.name)

    def test_no_two_files_draw_from_one_another(self):
        left = {name: set(drawn_from(tree)) for name, tree in trees().items()}
        while left:
            free = [name for name, needs in left.items() if not needs & set(left)]
            self.assertNotEqual(free, [], left)
            left = {name: needs for name, needs in left.items() if name not in free}

    def test_names_are_drawn_from_the_file_that_defines_them(self):
        all_trees = trees()
        for name, tree in all_trees.items():
            for node in tree.body:
                if isinstance(node, ast.ImportFrom):
                    source = all_trees[node.module.partition(".")[2]]
                    defined = [getattr(part, "name", None) or part.targets[0].id for part in source.body
                               if isinstance(part, (ast.FunctionDef, ast.ClassDef, ast.Assign))]
                    self.assertEqual([alias.name for alias in node.names if alias.name not in defined], [], name)

    def test_methods_and_values_have_names_of_their_own(self):
        methods, stored = set(), set()
        for tree in trees().values():
            some, others = methods_and_values(tree)
            methods |= some
            stored |= others
        self.assertEqual(methods & stored, set())
        called = set().union(*[called_methods(tree) for tree in trees().values()])
        self.assertEqual(called - methods - METHODS, set())


class Checker(unittest.TestCase):
    def test_what_is_ruled_out_is_seen(self):
        for text in ("import sys\n", "from os import path\n", "a = len([])\n", "print(1)\n", "a = 1\na = 2\n",
                     "def f(*a):\n    return a\n", "def f():\n    a = b = 1\n", "def f():\n    a, b = 1, 2\n",
                     "def f(x):\n    return x / 2\n", "def f(x):\n    return 1.5\n", "def f(x):\n    return 2 ** x\n",
                     "def f(x):\n    return x is 1\n", "def f(x):\n    return {a for a in x}\n",
                     "def f(x):\n    return sum(a for a in x)\n", "def f(x):\n    return range(x)\n",
                     "def f(x):\n    return list(reversed(range(x)))\n", "def f(next):\n    return next\n",
                     "def f():\n    type = 1\n", "def f():\n    global x\n", "def f():\n    _x = 1\n",
                     "class A:\n    x = 1\n", "def f(self):\n    self.values = 1\n", "def f():\n    return hash(1)\n",
                     "def f(x):\n    for a in x:\n        pass\n    else:\n        pass\n",
                     "def f():\n" + "    pass\n" * 40, "a = 'b" + "c" * 120 + "'\n", "a = '\u00e4'\n", "a = 'b%'\n"):
            self.assertNotEqual(faults(text), [], text)

    def test_what_is_allowed_passes(self):
        text = ("\"\"\"Why.\"\"\"\n\nA = (1, 2)\n\n\ndef f(x):\n    if x is None:\n        return [-1]\n"
                "    return sorted([y << 1 for y in x if y in A], key=len)\n")
        self.assertEqual(faults(text), [])


if __name__ == "__main__":
    unittest.main()
