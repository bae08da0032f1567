"""Looks through the package for those rules of its language that can be told by reading the code."""

import ast
import builtins
import pathlib
import re
import unittest

PACKAGE = pathlib.Path(__file__).resolve().parent.parent / "curvehouse"

OWN_NAMES = set(
    "len range enumerate zip min max sum abs sorted reversed int str bool list tuple dict set frozenset isinstance ord "
    "repr any all divmod Exception ValueError TypeError KeyError IndexError LookupError ZeroDivisionError "
    "ArithmeticError OverflowError RuntimeError NotImplementedError AttributeError StopIteration".split())
METHODS = set(
    "append clear copy count endswith extend find get index insert isalnum isalpha isdigit islower isspace isupper "
    "items join keys ljust lower lstrip partition pop remove replace reverse rfind rjust rpartition rsplit rstrip "
    "setdefault split splitlines startswith strip update upper values zfill bit_length add discard title".split())
VALUES = set("count index title find get join lower upper split strip copy add".split())
SPECIAL = {"__init__", "__eq__", "__repr__", "__str__", "__len__", "__all__", "__version__", "__name__"}
UNUSED = {"register", "mro", "elements", "open", "input", "version_info", "with_traceback", "add_note"}
WORDS = re.compile(
    r"\b(type|typing|typing_extensions|enum|Enum|IntEnum|StrEnum|Flag|IntFlag|Generic|Protocol|ABC|ABCMeta|namedtuple"
    r"|NamedTuple|TypedDict|TYPE_CHECKING|abstractmethod)\b|dataclass|overload|contextmanager")
NODES = (
    ast.Module, ast.Expr, ast.Constant, ast.ImportFrom, ast.alias, ast.FunctionDef, ast.arguments, ast.arg,
    ast.ClassDef, ast.Assign, ast.AugAssign, ast.AnnAssign, ast.If, ast.While, ast.For, ast.Return, ast.Break,
    ast.Continue, ast.Pass, ast.Raise, ast.Try, ast.ExceptHandler, ast.Call, ast.keyword, ast.Name, ast.Attribute,
    ast.Subscript, ast.Slice, ast.BinOp, ast.UnaryOp, ast.BoolOp, ast.Compare, ast.IfExp, ast.Lambda, ast.List,
    ast.Tuple, ast.Dict, ast.Set, ast.ListComp, ast.comprehension, ast.JoinedStr, ast.FormattedValue,
    ast.expr_context, ast.operator, ast.unaryop, ast.boolop, ast.cmpop)


def attributes_of_python():
    found = set()
    for kind in (str, int, list, tuple, dict, set, frozenset, bytes):
        found.update(name for name in dir(kind) if not name.startswith("_"))
    return found


PYTHONS_ATTRIBUTES = attributes_of_python()


def text_faults(text):
    if text.count("\n") > 400:
        yield "L10: a file of more than 400 lines"
    for sign in sorted(set(text)):
        if sign != "\n" and not " " <= sign <= "~":
            yield f"L14: the sign {sign!r}"
    for number, line in enumerate(text.split("\n"), start=1):
        if len(line) > 120:
            yield f"L10: line {number} is too long"
    for found in WORDS.finditer(text):
        yield f"L17: the word {found.group()}"


def name_faults(name):
    if name.startswith("_") and name not in SPECIAL:
        yield f"L12: the name {name}"
    if not name.isascii():
        yield f"L12: the name {name!r}"
    if name in UNUSED:
        yield f"L17: the name {name}"


def function_faults(node):
    asked = node.args
    if asked.vararg or asked.kwarg or asked.kwonlyargs or asked.posonlyargs:
        yield "L4: parameters that are not plain"
    for given in asked.args:
        yield from name_faults(given.arg)
    if isinstance(node, ast.FunctionDef):
        yield from name_faults(node.name)
        if node.decorator_list:
            yield "L4: a decorator"
        if node.end_lineno - node.lineno + 1 > 40:
            yield f"L10: the function {node.name} is too long"


def class_faults(node):
    if node.decorator_list or node.keywords or len(node.bases) > 1:
        yield f"L5: the class {node.name}"
    for part in node.body:
        if not isinstance(part, (ast.FunctionDef, ast.Pass)):
            yield f"L5: a value in the class {node.name}"


def import_faults(node, own):
    if node.module == "__future__":
        return
    if node.level or not (node.module or "").startswith("curvehouse."):
        yield f"L2: an import from {node.module}"
        return
    for drawn in node.names:
        if drawn.name not in own.get(node.module, [drawn.name]):
            yield f"L16: {drawn.name} is not defined in {node.module}"
        if drawn.name == "*":
            yield "L2: import *"


def expression_faults(node):
    if isinstance(node, ast.Constant) and not (node.value is None or isinstance(node.value, (int, str))):
        yield f"L7: the value {node.value!r}"
    if isinstance(node, ast.Constant) and isinstance(node.value, str) and chr(37) in node.value:
        yield "L27: a percent sign within a text"
    if isinstance(node, (ast.Div, ast.MatMult)):
        yield "L7: an operator"
    if isinstance(node, ast.ListComp) and (len(node.generators) > 1 or len(node.generators[0].ifs) > 1):
        yield "L7: a comprehension"
    if isinstance(node, ast.FormattedValue) and (not isinstance(node.value, ast.Name) or node.format_spec):
        yield "L7: an f-string"
    if isinstance(node, ast.Compare):
        sides = [node.left] + node.comparators
        for place, sign in enumerate(node.ops):
            beside = [side.value for side in sides[place:place + 2] if isinstance(side, ast.Constant)]
            if isinstance(sign, (ast.Is, ast.IsNot)) and not any(x is None or isinstance(x, bool) for x in beside):
                yield "L20: is"
    if isinstance(node, ast.Name):
        yield from name_faults(node.id)
        if hasattr(builtins, node.id) and node.id not in OWN_NAMES and node.id not in SPECIAL:
            yield f"L8: the name {node.id}"
        if node.id in OWN_NAMES and isinstance(node.ctx, ast.Store):
            yield f"L15: {node.id} is given another meaning"
    if isinstance(node, ast.Attribute):
        yield from name_faults(node.attr)
        if node.attr in PYTHONS_ATTRIBUTES and node.attr not in METHODS:
            yield f"L25: the method {node.attr}"


def statement_faults(node):
    if isinstance(node, ast.Assign) and len(node.targets) > 1:
        yield "L6: several targets"
    if isinstance(node, (ast.For, ast.While)) and node.orelse:
        yield "L6: else behind a loop"
    if isinstance(node, ast.Try) and node.finalbody:
        yield "L6: finally"
    if isinstance(node, ast.ExceptHandler) and node.type is None:
        yield "L6: except without a name"


def taken_names(tree):
    """The classes and imports of a file: nothing else in it is called like them."""
    found = {part.name for part in tree.body if isinstance(part, ast.ClassDef)}
    for part in tree.body:
        if isinstance(part, ast.ImportFrom):
            found.update(drawn.asname or drawn.name for drawn in part.names)
    return found


def local_faults(tree):
    taken = taken_names(tree)
    for node in ast.walk(tree):
        name = None
        if isinstance(node, ast.arg):
            name = node.arg
        if isinstance(node, ast.Name) and isinstance(node.ctx, ast.Store):
            name = node.id
        if name is not None and (name in taken or hasattr(builtins, name)):
            yield f"L15: {name} is called like another thing"


def top_faults(tree):
    bound = defined(tree) + sorted(taken_names(tree) - set(defined(tree)))
    for name in sorted(set(bound)):
        if bound.count(name) > 1:
            yield f"L15: {name} is bound twice"
    for part in tree.body:
        text = isinstance(part, ast.Expr) and isinstance(part.value, ast.Constant) and part == tree.body[0]
        if not text and not isinstance(part, (ast.ImportFrom, ast.FunctionDef, ast.ClassDef, ast.Assign)):
            yield f"L3: {type(part).__name__} at the top"


def tree_faults(tree, own):
    yield from local_faults(tree)
    yield from top_faults(tree)
    for node in ast.walk(tree):
        if not isinstance(node, NODES):
            yield f"L6, L7: {type(node).__name__}"
        if isinstance(node, (ast.FunctionDef, ast.Lambda)):
            yield from function_faults(node)
        if isinstance(node, ast.ClassDef):
            yield from class_faults(node)
        if isinstance(node, ast.ImportFrom):
            yield from import_faults(node, own)
        yield from expression_faults(node)
        yield from statement_faults(node)


def faults(text, own):
    return list(text_faults(text)) + list(tree_faults(ast.parse(text), own))


def defined(tree):
    """The names that a file's top defines itself."""
    found = [part.name for part in tree.body if isinstance(part, (ast.FunctionDef, ast.ClassDef))]
    for part in tree.body:
        if isinstance(part, ast.Assign):
            found.extend(target.id for target in part.targets if isinstance(target, ast.Name))
    return found


def methods_of(tree):
    """For each class its methods, as often as they stand."""
    return {part.name: [method.name for method in part.body if isinstance(method, ast.FunctionDef)]
            for part in tree.body if isinstance(part, ast.ClassDef)}


def values_of(tree):
    """The names under which objects are given values."""
    return {node.attr for node in ast.walk(tree) if isinstance(node, ast.Attribute) and isinstance(node.ctx, ast.Store)}


def class_name_faults(trees):
    """Over the whole package: methods that stand twice in a class, and names that are a method and a value."""
    methods = set()
    for tree in trees:
        for name, found in methods_of(tree).items():
            methods.update(found)
            if len(set(found)) < len(found):
                yield f"L18: a method stands twice in {name}"
    for name in sorted(methods & set().union(*[values_of(tree) for tree in trees])):
        yield f"L18: {name} is a method and a value"
    for tree in trees:
        for name in sorted(values_of(tree) & PYTHONS_ATTRIBUTES - VALUES):
            yield f"L26: a value is called {name}"


def drawn_from(tree):
    return [part.module for part in tree.body if isinstance(part, ast.ImportFrom)]


def reached_from(module, drawn):
    """All files that a file draws from, in whatever many steps."""
    found = []
    waiting = list(drawn[module])
    while waiting:
        other = waiting.pop()
        if other not in found:
            found.append(other)
            waiting.extend(drawn.get(other, []))
    return found


class LanguageTest(unittest.TestCase):
    def test_files(self):
        self.assertTrue((PACKAGE / "__init__.py").is_file())
        for path in sorted(PACKAGE.iterdir()):
            if path.name != "__pycache__":
                with self.subTest(path.name):
                    self.assertTrue(path.is_file())
                    self.assertRegex(path.name, r"\A([a-z][a-z0-9_]*|__init__|__main__)\.py\Z")

    def test_package(self):
        texts = {path: path.read_text(encoding="utf-8") for path in sorted(PACKAGE.glob("*.py"))}
        own = {f"curvehouse.{path.stem}": defined(ast.parse(text)) for path, text in texts.items()}
        for path, text in texts.items():
            with self.subTest(path.name):
                self.assertEqual(faults(text, own), [])

    def test_no_two_files_draw_from_one_another(self):
        drawn = {f"curvehouse.{path.stem}": drawn_from(ast.parse(path.read_text(encoding="utf-8")))
                 for path in sorted(PACKAGE.glob("*.py"))}
        for module in drawn:
            with self.subTest(module):
                self.assertNotIn(module, reached_from(module, drawn))
        self.assertIn("a", reached_from("a", {"a": ["b"], "b": ["c"], "c": ["a"]}))

    def test_methods_and_values(self):
        trees = [ast.parse(path.read_text(encoding="utf-8")) for path in sorted(PACKAGE.glob("*.py"))]
        self.assertEqual(list(class_name_faults(trees)), [])
        one = "class A:\n    def a(self):\n        pass\n"
        for others in (["class B:\n    def b(self):\n        self.a = 1\n"], [one, "def f(x):\n    x.items = 1\n"],
                       ["class C:\n    def c(self):\n        pass\n    def c(self):\n        pass\n"]):
            self.assertNotEqual(list(class_name_faults([ast.parse(text) for text in [one] + others])), [])
        self.assertEqual(list(class_name_faults([ast.parse(one), ast.parse(one)])), [])

    def test_what_is_outside_is_found(self):
        for text in (
                "import sys\n", "from curvehouse.wholes import *\n", "from os import path\n", "x = 1.5\n", "x = b''\n",
                "x = 1 / 2\n", "x = y = 1\n", "x = {k: k for k in [1]}\n", "x = [k for k in [1] for j in [2]]\n",
                "x = type(1)\n", "x = print\n", "len = 1\n", "_x = 1\n", "x = 1\ny = x is x\n", "x = [].sort()\n",
                "def f(*a):\n    pass\n", "def f(id):\n    pass\n", "@f\ndef g():\n    pass\n", "assert 1\n",
                "class A:\n    x = 1\n", "try:\n    pass\nexcept:\n    pass\n", "while 1:\n    pass\nelse:\n    pass\n",
                "# a \u00e9\n", "# " + "x" * 120 + "\n", "\n" * 401, "x =\t1\n",
                "def f():\n" + "    pass\n" * 40, "x = (1 if 2 else (y := 3))\n", "# the type of it\n",
                "from curvehouse.errors import Nothing\n", "def f():\n    next = 1\n", "x = 1\nx = 2\n", "f()\n",
                "from curvehouse.errors import NoRatio\n\n\ndef f():\n    for NoRatio in [1]:\n        pass\n",
                "from curvehouse.errors import NoRatio\nf = lambda NoRatio: 1\n", "def f():\n    pass\n\n\nf = 1\n"):
            with self.subTest(text=text[:40]):
                self.assertNotEqual(faults(text, {"curvehouse.errors": ["NoRatio"]}), [])

    def test_what_is_inside_is_not(self):
        text = (
            '"""A file."""\n\nfrom curvehouse.errors import NoRatio\n\nPAIRS = [(1, "one")]\n\n\n'
            "def told(things, bound=3):\n    found = []\n    for k, thing in enumerate(things):\n"
            "        if thing is not None and k < bound:\n            found.append(f\"{k}\")\n"
            "    if not found:\n        raise NoRatio(\"none\")\n    return sorted(found, key=lambda x: -len(x))\n")
        self.assertEqual(faults(text, {"curvehouse.errors": ["NoRatio"]}), [])


if __name__ == "__main__":
    unittest.main()
