"""The package's files are held against the rules of the language that can be seen in their text.

L1 to L28 are meant here as the project's language rules number them. What isn't checked here
(how objects are kept, what is walked when) is still asked for.
"""

import ast
import builtins
import pathlib
import re
import unittest

PACKAGE = pathlib.Path(__file__).resolve().parent.parent / "layworld"
OWN_NAMES = set(
    "len range enumerate zip min max sum abs sorted reversed int str bool list tuple dict set frozenset isinstance"
    " ord repr any all divmod Exception ValueError TypeError KeyError IndexError LookupError ZeroDivisionError"
    " ArithmeticError OverflowError RuntimeError NotImplementedError AttributeError StopIteration".split()
)
METHODS = set(
    "append clear copy count endswith extend find get index insert isalnum isalpha isdigit islower isspace isupper"
    " items join keys ljust lower lstrip partition pop remove replace reverse rfind rjust rpartition rsplit rstrip"
    " setdefault split splitlines startswith strip update upper values zfill bit_length".split()
)
PYTHONS_OWN = set(dir(str) + dir(int) + dir(list) + dir(dict) + dir(set) + dir(bytes) + dir(tuple))
DUNDERS = {"__init__", "__eq__", "__repr__", "__str__", "__len__"}
WORDS = (
    r"\b(type|typing|typing_extensions|enum|Enum|IntEnum|StrEnum|Flag|IntFlag|Generic|Protocol|ABC|ABCMeta|namedtuple"
    r"|NamedTuple|TypedDict|TYPE_CHECKING|abstractmethod)\b|dataclass|overload|contextmanager"
)
PLAIN_NAME = r"\A[A-Za-z][A-Za-z0-9_]*\Z"
UNUSED = set("register mro elements open input version_info with_traceback add_note".split())
NODES = (
    "Module Import ImportFrom alias FunctionDef arguments arg ClassDef Lambda Assign AugAssign If While For Return"
    " Break Continue Pass Raise Try ExceptHandler Expr BinOp UnaryOp BoolOp Compare IfExp Call keyword Attribute"
    " Subscript Slice ListComp comprehension JoinedStr FormattedValue Constant Name List Tuple Dict Set Load Store"
    " And Or Not Add Sub Mult FloorDiv Mod Pow BitAnd BitOr BitXor Invert LShift RShift USub UAdd"
    " Eq NotEq Lt LtE Gt GtE Is IsNot In NotIn"
).split()


def sources():
    for path in sorted(PACKAGE.rglob("*")):
        if path.is_file() and "__pycache__" not in path.parts:
            yield path, path.read_text(encoding="utf-8")


def bound_names(tree):
    """Every name that is bound in the tree, but those of methods, which may be called more freely."""
    methods = [held for node in ast.walk(tree) if isinstance(node, ast.ClassDef) for held in node.body]
    for node in ast.walk(tree):
        if isinstance(node, (ast.FunctionDef, ast.ClassDef)) and node not in methods:
            yield node.name
        elif isinstance(node, ast.arg):
            yield node.arg
        elif isinstance(node, ast.Name) and isinstance(node.ctx, ast.Store):
            yield node.id
        elif isinstance(node, ast.alias):
            yield node.asname or node.name
        elif isinstance(node, ast.ExceptHandler) and node.name:
            yield node.name


class Language(unittest.TestCase):
    def each_node(self, held):
        for path, text in sources():
            for node in ast.walk(ast.parse(text)):
                with self.subTest(file=path.name, line=getattr(node, "lineno", 0)):
                    held(node)

    def test_files(self):
        self.assertTrue((PACKAGE / "__init__.py").is_file())
        for path, text in sources():
            with self.subTest(file=path.name):
                self.assertRegex(path.name, r"\A(__init__|__main__|[a-z][a-z0-9_]*)\.py\Z")
                self.assertNotIn(path.stem, dir(builtins))
                self.assertRegex(text, r"\A[ -~\n]*\Z")
                self.assertIsNone(re.search(WORDS, text))
                self.assertLessEqual(len(text.splitlines()), 400)
                self.assertLessEqual(max(len(line) for line in text.splitlines()), 120)

    def test_nodes(self):
        self.each_node(self.node_held)

    def node_held(self, node):
        self.assertIn(type(node).__name__, NODES)
        if isinstance(node, ast.Constant):
            self.assertIn(type(node.value), (int, str, bool, type(None)))
            self.assertNotIn("%", str(node.value))
        if isinstance(node, ast.Assign):
            self.assertEqual(len(node.targets), 1)
        if isinstance(node, (ast.For, ast.While)):
            self.assertEqual(node.orelse, [])
        if isinstance(node, ast.Try):
            self.assertEqual(node.finalbody, [])
        if isinstance(node, ast.ListComp):
            self.assertEqual(len(node.generators), 1)
            self.assertLessEqual(len(node.generators[0].ifs), 1)
        if isinstance(node, ast.Compare) and isinstance(node.ops[0], (ast.Is, ast.IsNot)):
            self.assertIsInstance(node.comparators[0], ast.Constant)

    def test_functions_and_classes(self):
        self.each_node(self.def_held)

    def def_held(self, node):
        if isinstance(node, (ast.FunctionDef, ast.ClassDef)):
            self.assertEqual(node.decorator_list, [])
        if isinstance(node, ast.FunctionDef):
            self.assertLessEqual(node.end_lineno - node.lineno + 1, 40)
            given = node.args
            self.assertEqual([given.posonlyargs, given.kwonlyargs, given.vararg, given.kwarg], [[], [], None, None])
        if isinstance(node, ast.ClassDef):
            self.assertLessEqual(len(node.bases), 1)
            for held in node.body:
                self.assertIsInstance(held, (ast.FunctionDef, ast.Expr))
                if isinstance(held, ast.FunctionDef) and held.name not in DUNDERS:
                    self.assertRegex(held.name, PLAIN_NAME)

    def test_names(self):
        for path, text in sources():
            tree = ast.parse(text)
            bound = list(bound_names(tree))
            for name in bound:
                with self.subTest(file=path.name, name=name):
                    self.assertRegex(name, PLAIN_NAME)
                    self.assertNotIn(name, set(dir(builtins)) | UNUSED)
            for node in ast.walk(tree):
                if isinstance(node, ast.Name) and isinstance(node.ctx, ast.Load):
                    with self.subTest(file=path.name, line=node.lineno):
                        self.assertIn(node.id, OWN_NAMES | set(bound))

    def test_attributes(self):
        self.each_node(self.attribute_held)

    def attribute_held(self, node):
        if isinstance(node, ast.Attribute):
            self.assertTrue(node.attr in METHODS | {"__init__"} or node.attr not in PYTHONS_OWN | UNUSED)

    def test_methods_and_values_of_objects(self):
        methods = set()
        values = set()
        for path, text in sources():
            for node in ast.walk(ast.parse(text)):
                if isinstance(node, ast.ClassDef):
                    own = [held.name for held in node.body if isinstance(held, ast.FunctionDef)]
                    self.assertEqual(len(set(own)), len(own))
                    methods |= set(own)
                if isinstance(node, ast.Attribute) and isinstance(node.ctx, ast.Store):
                    values.add(node.attr)
        self.assertEqual(methods & values, set())
        self.assertEqual(values & PYTHONS_OWN, set())

    def test_walked_at_once(self):
        self.each_node(self.walked_held)

    def walked_held(self, node):
        fleeting = ("zip", "enumerate", "reversed", "range", "map", "filter", "set")
        kept = (ast.Assign, ast.Return, ast.List, ast.Tuple, ast.Dict, ast.Subscript, ast.Attribute)
        if isinstance(node, kept):
            for held in ast.iter_child_nodes(node):
                if isinstance(held, ast.Call) and isinstance(held.func, ast.Name):
                    self.assertNotIn(held.func.id, fleeting)
                if isinstance(held, ast.Call) and isinstance(held.func, ast.Attribute):
                    self.assertNotIn(held.func.attr, ("items", "keys", "values"))

    def test_top_of_files(self):
        kinds = (ast.Expr, ast.ImportFrom, ast.FunctionDef, ast.ClassDef, ast.Assign)
        for path, text in sources():
            tree = ast.parse(text)
            with self.subTest(file=path.name):
                self.assertTrue(ast.get_docstring(tree))
                for node in tree.body:
                    self.assertIsInstance(node, kinds)
                imported = [alias.name for node in ast.walk(tree) if isinstance(node, ast.ImportFrom)
                            for alias in node.names]
                inner = [name for node in tree.body if not isinstance(node, ast.ImportFrom)
                         for name in bound_names(node)]
                self.assertEqual(set(imported) & set(inner), set())

    def test_imports(self):
        drawn = {}
        for path, text in sources():
            drawn[path.stem] = []
            for node in ast.walk(ast.parse(text)):
                self.assertNotIsInstance(node, ast.Import)
                if isinstance(node, ast.ImportFrom):
                    drawn[path.stem].append(node.module.removeprefix("layworld."))
                    self.drawn_rightly(node)
        # files that draw from none that is left are taken away; a ring would never go
        while drawn:
            free = [name for name in drawn if not set(drawn[name]) & set(drawn)]
            self.assertTrue(free, f"draw from one another: {sorted(drawn)}")
            for name in free:
                del drawn[name]

    def drawn_rightly(self, node):
        self.assertEqual(node.level, 0)
        self.assertRegex(node.module, r"\Alayworld\.[a-z0-9_]+\Z")
        there = PACKAGE / (node.module.removeprefix("layworld.") + ".py")
        defined = []
        for held in ast.parse(there.read_text(encoding="utf-8")).body:
            if isinstance(held, (ast.FunctionDef, ast.ClassDef)):
                defined.append(held.name)
            if isinstance(held, ast.Assign):
                defined.append(held.targets[0].id)
        for alias in node.names:
            self.assertIsNone(alias.asname)
            self.assertIn(alias.name, defined)


if __name__ == "__main__":
    unittest.main()
