"""Holds the package's files against those rules of the language's part that can be seen line by line.

The numbers L1 to L28 are those of the part of Python that the program keeps to.
"""

import ast
import builtins
import keyword
import pathlib
import re
import unittest

PACKAGE = pathlib.Path(__file__).resolve().parent.parent / "watchyard"

ERRORS = set(
    "Exception ValueError TypeError KeyError IndexError LookupError ZeroDivisionError ArithmeticError OverflowError "
    "RuntimeError NotImplementedError AttributeError StopIteration".split())
BUILT_IN = ERRORS | set(
    "len range enumerate zip min max sum abs sorted reversed int str bool list tuple dict set frozenset isinstance "
    "ord repr any all divmod".split())
METHODS = set(
    "append clear copy count endswith extend find get index insert isalnum isalpha isdigit islower isspace isupper "
    "items join keys ljust lower lstrip partition pop remove replace reverse rfind rjust rpartition rsplit rstrip "
    "setdefault split splitlines startswith strip update upper values zfill bit_length".split())
DOUBLE = set("__init__ __eq__ __repr__ __str__ __len__".split())
NOWHERE = set("register mro elements open input version_info with_traceback add_note format format_map".split())
WORDS = (
    r"\b(type|typing|typing_extensions|enum|Enum|IntEnum|StrEnum|Flag|IntFlag|Generic|Protocol|ABC|ABCMeta|namedtuple"
    r"|NamedTuple|TypedDict|TYPE_CHECKING|abstractmethod)\b|dataclass|overload|contextmanager")
FILE_NAMES = set(dir(builtins)) | set(
    "test tests testing site conftest sitecustomize usercustomize typing enum".split())
# L23: walked on the spot, behind "in" or in one of these.
WALKED = set("zip enumerate reversed range".split())
WALKERS = set("list tuple dict sorted sum any all enumerate zip min max".split())
# L26: what no value of an object is called.
NO_VALUES = METHODS - set("count index find get join lower upper split strip copy".split()) | {"sort", "args", "encode"}
# L22: the keywords that go with Python's own names.
KEYWORDS = {"sorted": ("key", "reverse"), "min": ("key", "default"), "max": ("key", "default"), "sum": ("start",),
            "enumerate": ("start",), "zip": ("strict",)}
NODES = (
    ast.Module, ast.FunctionDef, ast.ClassDef, ast.arguments, ast.arg, ast.ImportFrom, ast.alias, ast.Assign,
    ast.AugAssign, ast.If, ast.While, ast.For, ast.Return, ast.Break, ast.Continue, ast.Pass, ast.Raise, ast.Try,
    ast.ExceptHandler, ast.Expr, ast.Constant, ast.Name, ast.List, ast.Tuple, ast.Dict, ast.BinOp, ast.UnaryOp,
    ast.BoolOp, ast.Compare, ast.IfExp, ast.Call, ast.keyword, ast.Attribute, ast.Subscript, ast.Slice, ast.ListComp,
    ast.comprehension, ast.JoinedStr, ast.FormattedValue, ast.Lambda, ast.Set, ast.expr_context, ast.operator,
    ast.unaryop, ast.boolop, ast.cmpop)


def text_faults(source):
    found = []
    for number, row in enumerate(source.split("\n"), start=1):
        if len(row) > 120:
            found.append(("L10", number))
        if any(not " " <= sign <= "~" for sign in row):
            found.append(("L14", number))
        if re.search(WORDS, row):
            found.append(("L17", number))
    if source.count("\n") > 400:
        found.append(("L10", 400))
    return found


def node_faults(node):
    """The faults that one node shows by itself: pairs of a rule and whether it is broken."""
    if isinstance(node, (ast.FunctionDef, ast.Lambda)):
        spread = node.args.vararg or node.args.kwarg or node.args.kwonlyargs or node.args.posonlyargs
        yield "L4", bool(spread)
    if isinstance(node, ast.FunctionDef):
        yield "L4", bool(node.decorator_list)
        yield "L10", node.end_lineno - node.lineno >= 40
        yield "L12", node.name.startswith("_") and node.name not in DOUBLE
        yield "L21", node.returns is not None or any(each.annotation for each in node.args.args)
    if isinstance(node, ast.ClassDef):
        plain = all(isinstance(each, (ast.FunctionDef, ast.Pass)) for each in node.body)
        yield "L5", bool(node.decorator_list or node.keywords) or len(node.bases) > 1 or not plain
    if isinstance(node, ast.Assign):
        yield "L6", len(node.targets) != 1 or isinstance(node.targets[0], (ast.Tuple, ast.List))
    if isinstance(node, (ast.For, ast.While)):
        yield "L6", bool(node.orelse)
    if isinstance(node, ast.Try):
        yield "L6", bool(node.finalbody)
        yield "L19", any(handler.type is None for handler in node.handlers)
    if isinstance(node, ast.ExceptHandler) and isinstance(node.type, ast.Name):
        yield "L19", node.type.id in ("Exception", "TypeError")
    if isinstance(node, ast.Expr):
        yield "L6", not isinstance(node.value, ast.Call)
    if isinstance(node, ast.BinOp):
        yield "L7", isinstance(node.op, (ast.Div, ast.MatMult))
    if isinstance(node, ast.Constant):
        yield "L7", not isinstance(node.value, (int, str, type(None)))
        yield "L27", isinstance(node.value, str) and "%" in node.value
    if isinstance(node, ast.FormattedValue):
        yield "L7", not isinstance(node.value, ast.Name) or node.format_spec is not None
    if isinstance(node, ast.Call) and isinstance(node.func, ast.Name) and node.func.id in BUILT_IN:
        yield "L22", any(each.arg not in KEYWORDS.get(node.func.id, ()) for each in node.keywords)
    if isinstance(node, ast.ListComp):
        yield "L7", len(node.generators) != 1 or len(node.generators[0].ifs) > 1
    if isinstance(node, ast.Compare) and any(isinstance(each, (ast.Is, ast.IsNot)) for each in node.ops):
        yield "L20", not all(isinstance(each, ast.Constant) and each.value in (None, True, False)
                             for each in node.comparators)
    if isinstance(node, ast.Name):
        yield "L12", node.id.startswith("_")
        yield "L8", node.id in dir(builtins) and node.id not in BUILT_IN
        yield "L15", node.id in dir(builtins) and isinstance(node.ctx, ast.Store)
        yield "L17", node.id in NOWHERE
    if isinstance(node, ast.arg):
        yield "L15", node.arg in dir(builtins) or node.arg.startswith("_")
    if isinstance(node, ast.Attribute):
        yield "L12", node.attr.startswith("_") and node.attr != "__init__"
        yield "L17", node.attr in NOWHERE
    if isinstance(node, ast.ImportFrom):
        own = node.level == 0 and (node.module or "").startswith("watchyard.")
        yield "L2", not own or any(each.name == "*" for each in node.names)


def name_faults(tree):
    """L15: parameters and locals that are called like a class or an import of the file."""
    taken = {alias.asname or alias.name for row in drawn_from(tree) for alias in row.names}
    taken |= {each.name for each in tree.body if isinstance(each, ast.ClassDef)}
    for node in ast.walk(tree):
        if isinstance(node, ast.arg) and node.arg in taken:
            yield "L15", node.lineno
        if isinstance(node, ast.Name) and isinstance(node.ctx, ast.Store) and node.id in taken:
            yield "L15", node.lineno


def walk_faults(tree):
    """L23: what is made to be walked, and is kept or handed on."""
    walked = set()
    for node in ast.walk(tree):
        if isinstance(node, (ast.For, ast.comprehension)):
            walked.add(node.iter)
        if isinstance(node, ast.Call) and node.args:
            if isinstance(node.func, ast.Name) and node.func.id in WALKERS:
                walked.add(node.args[0])
            if isinstance(node.func, ast.Name) and node.func.id == "zip":
                walked.update(node.args)
            if isinstance(node.func, ast.Attribute) and node.func.attr == "join":
                walked.add(node.args[0])
    for node in ast.walk(tree):
        if isinstance(node, ast.Call) and node not in walked:
            if isinstance(node.func, ast.Name) and node.func.id in WALKED:
                yield "L23", node.lineno
            if isinstance(node.func, ast.Attribute) and node.func.attr in ("items", "keys", "values"):
                yield "L23", node.lineno


def set_faults(tree):
    """L24: sets that are kept or walked."""
    free = set()
    for node in ast.walk(tree):
        if isinstance(node, ast.Call) and isinstance(node.func, ast.Name) and node.func.id in ("sorted", "len"):
            if not node.keywords:
                free.update(node.args)
        if isinstance(node, ast.Compare):
            free.update([node.left] + node.comparators)
    for node in ast.walk(tree):
        if isinstance(node, ast.BinOp) and node in free:
            free.update([node.left, node.right])
    for node in ast.walk(tree):
        made = isinstance(node, ast.Call) and isinstance(node.func, ast.Name) and node.func.id in ("set", "frozenset")
        if (made or isinstance(node, ast.Set)) and node not in free:
            yield "L24", node.lineno


def is_plain(node):
    """L3: what a name at a file's top is given."""
    if isinstance(node, (ast.List, ast.Tuple)):
        return all(is_plain(each) for each in node.elts)
    if isinstance(node, ast.Dict):
        return all(is_plain(each) for each in node.keys + node.values)
    return isinstance(node, ast.Constant)


def is_deep(node):
    """L15: a list or dict of a file's top that holds a list or dict."""
    return isinstance(node, (ast.List, ast.Dict)) and any(
        isinstance(each, (ast.List, ast.Dict)) for each in ast.walk(node) if each is not node)


def methods_of(tree):
    """Each class's name, with the names of its methods."""
    return {node.name: [each.name for each in node.body if isinstance(each, ast.FunctionDef)]
            for node in tree.body if isinstance(node, ast.ClassDef)}


def values_of(tree):
    """The names of the values that objects are given."""
    return {node.attr for node in ast.walk(tree) if isinstance(node, ast.Attribute) and isinstance(node.ctx, ast.Store)}


def faults(source):
    tree = ast.parse(source)
    found = text_faults(source) + list(name_faults(tree)) + list(walk_faults(tree)) + list(set_faults(tree))
    found.extend(("L26", name) for name in values_of(tree) & NO_VALUES)
    docstring = tree.body[0] if ast.get_docstring(tree) is not None else None
    for each in tree.body:
        if each is not docstring and not isinstance(each, (ast.ImportFrom, ast.FunctionDef, ast.ClassDef, ast.Assign)):
            found.append(("L3", each.lineno))
        if isinstance(each, ast.Assign) and not is_plain(each.value):
            found.append(("L3", each.lineno))
        if isinstance(each, ast.Assign) and is_deep(each.value):
            found.append(("L15", each.lineno))
    for node in ast.walk(tree):
        if not isinstance(node, NODES):
            found.append(("L6 or L7", getattr(node, "lineno", 0)))
        if node is not docstring:
            found.extend((rule, getattr(node, "lineno", 0)) for rule, broken in node_faults(node) if broken)
    return sorted(set(found), key=repr)


def defined(tree):
    names = [each.name for each in tree.body if isinstance(each, (ast.FunctionDef, ast.ClassDef))]
    return names + [each.targets[0].id for each in tree.body if isinstance(each, ast.Assign)]


def drawn_from(tree):
    return [each for each in tree.body if isinstance(each, ast.ImportFrom)]


class Package(unittest.TestCase):
    def setUp(self):
        self.files = {path.stem: path for path in sorted(PACKAGE.glob("*.py"))}
        self.trees = {name: ast.parse(path.read_text("utf-8")) for name, path in self.files.items()}

    def test_nothing_else_lies_in_it(self):
        names = {path.name for path in PACKAGE.iterdir()} - {"__pycache__"}
        self.assertEqual(names, {f"{name}.py" for name in self.files})
        self.assertIn("__init__", self.files)

    def test_plain_file_names(self):
        for name in set(self.files) - {"__init__", "__main__"}:
            self.assertRegex(name, r"\A[a-z][a-z0-9_]*\Z")
            self.assertFalse(name in FILE_NAMES or name.startswith("test_") or keyword.iskeyword(name), name)

    def test_each_file_keeps_to_the_rules(self):
        for name, path in self.files.items():
            self.assertEqual(faults(path.read_text("utf-8")), [], name)

    def test_names_are_bound_once_at_a_files_top(self):
        for name, tree in self.trees.items():
            bound = defined(tree) + [alias.asname or alias.name for row in drawn_from(tree) for alias in row.names]
            self.assertEqual(sorted(bound), sorted(set(bound)), name)

    def test_imports_are_from_the_file_that_defines_the_name(self):
        for name, tree in self.trees.items():
            for row in drawn_from(tree):
                source = row.module.split(".")[1]
                for alias in row.names:
                    self.assertIn(alias.name, defined(self.trees[source]), name)

    def test_no_two_files_draw_from_one_another(self):
        left = {name: {row.module.split(".")[1] for row in drawn_from(tree)} for name, tree in self.trees.items()}
        while left:
            free = [name for name in left if not left[name] & set(left)]
            self.assertTrue(free, f"these draw from one another: {sorted(left)}")
            left = {name: left[name] for name in left if name not in free}

    def test_methods_are_own_ones_or_listed(self):
        own = set()
        for tree in self.trees.values():
            own |= {each.name for each in ast.walk(tree) if isinstance(each, ast.FunctionDef)}
        for name, tree in self.trees.items():
            for node in ast.walk(tree):
                if isinstance(node, ast.Call) and isinstance(node.func, ast.Attribute):
                    self.assertIn(node.func.attr, METHODS | own, (name, node.lineno))

    def test_no_name_is_a_method_in_one_class_and_a_value_in_another(self):
        methods, values = set(), set()
        for tree in self.trees.values():
            methods |= {name for own in methods_of(tree).values() for name in own}
            values |= values_of(tree)
        self.assertEqual(methods & values, set())

    def test_no_method_stands_twice(self):
        for tree in self.trees.values():
            for name, own in methods_of(tree).items():
                self.assertEqual(sorted(own), sorted(set(own)), name)


class Checker(unittest.TestCase):
    """What looks at the files would see a broken rule."""

    def test_a_plain_file_has_no_fault(self):
        source = '"""Words."""\n\nfrom watchyard.errors import NoFraction\n\nLIMIT = 3\n\n\n'
        source += 'def halved(number):\n    if number is None:\n        raise NoFraction("no")\n'
        source += "    return sorted(set([number // 2]))\n"
        self.assertEqual(faults(source), [])

    def test_broken_rules_are_seen(self):
        broken = {
            "import os\n": "L3", "from fractions import gcd\n": "L2", "from watchyard.errors import *\n": "L2",
            "print(1)\n": "L3", "def f(*xs):\n    return xs\n": "L4", "class C:\n    number = 1\n": "L5",
            "def f(x):\n    a = b = x\n": "L6", "def f(x):\n    assert x\n": "L6 or L7", "def f(x):\n    x\n": "L6",
            "def f(x):\n    return x / 2\n": "L7", "def f(x):\n    return 0.5\n": "L7",
            "def f(xs):\n    return [x for y in xs for x in y]\n": "L7", "def f(x):\n    return pow(x, 2)\n": "L8",
            "def f(x):\n" + "    x = 1\n" * 40: "L10", "X = 1" + " " * 120 + "\n": "L10",
            "def f(x):\n    _y = x\n": "L12", "# \u00e9\n": "L14", "X = 1  #\t\n": "L14",
            "def f(x):\n    len = x\n": "L15", "def f(id):\n    return id\n": "L15", "# what type it is\n": "L17",
            "def f(x):\n    return x.format()\n": "L17", "def f(x, y):\n    return x is y\n": "L20",
            "def f(x):\n    try:\n        return int(x)\n    except Exception:\n        return 0\n": "L19",
            "def f(x: int):\n    return x\n": "L21", 'X = "%"\n': "L27", "def f(x):\n    yield x\n": "L6 or L7",
            "from watchyard.points import mixed\n\n\ndef f(mixed):\n    return mixed\n": "L15",
            "class C:\n    pass\n\n\ndef f(x):\n    C = x\n    return C\n": "L15",
            "def f(xs):\n    return zip(xs, xs)\n": "L23", "def f(d):\n    x = d.items()\n    return list(x)\n": "L23",
            "class C:\n    def __init__(self, x):\n        self.keys = x\n": "L26",
            "X = 2 + 3\n": "L3", "X = [1, (2, [3])]\n": "L15", "def f(x):\n    a, b = x\n": "L6",
            'def f(x):\n    return f"{x + 1}"\n': "L7", 'def f(x):\n    return f"{x:>3}"\n': "L7",
            "def f(x):\n    return int(x, base=2)\n": "L22", "def f(x):\n    y = set(x)\n    return y\n": "L24",
            "def f(x):\n    for y in {x}:\n        return y\n": "L24",
            "def f(xs):\n    return {x for x in xs}\n": "L6 or L7", "def f(x):\n    return (y := x)\n": "L6 or L7",
        }
        for source, rule in broken.items():
            self.assertIn(rule, [found[0] for found in faults(source)], source)


if __name__ == "__main__":
    unittest.main()
