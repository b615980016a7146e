"""Holds the package's files against the part of Python that the program keeps to."""

import ast
import builtins
import pathlib
import re
import unittest

PACKAGE = pathlib.Path(__file__).resolve().parent.parent / "leastflows"
FILES = sorted(PACKAGE.glob("*.py"))
NODES = set("""
    Module FunctionDef ClassDef arguments arg Assign AugAssign If While For Return Break Continue Pass Raise Try
    ExceptHandler Expr ImportFrom alias Call Attribute Subscript Slice Name Constant List Tuple Dict ListComp
    comprehension IfExp BoolOp And Or UnaryOp Not USub BinOp Add Sub Mult FloorDiv Mod BitAnd BitOr BitXor LShift
    RShift Compare Eq NotEq Lt LtE Gt GtE Is IsNot In NotIn Lambda JoinedStr FormattedValue keyword Load Store Set
""".split())
OWN_NAMES = set("""
    len range enumerate zip min max sum abs sorted reversed int str bool list tuple dict set frozenset isinstance ord
    repr any all divmod Exception ValueError TypeError KeyError IndexError LookupError ZeroDivisionError
    ArithmeticError OverflowError RuntimeError NotImplementedError AttributeError StopIteration
""".split())
METHODS = set("""
    append clear copy count endswith extend find get index insert isalnum isalpha isdigit islower isspace isupper items
    join keys ljust lower lstrip partition pop remove replace reverse rfind rjust rpartition rsplit rstrip setdefault
    split splitlines startswith strip update upper values zfill bit_length
""".split())
DUNDERS = ("__init__", "__eq__", "__repr__", "__str__", "__len__")
WORDS = re.compile(r"\b(type|typing|typing_extensions|enum|Enum|IntEnum|StrEnum|Flag|IntFlag|Generic|Protocol|ABC|"
                   r"ABCMeta|namedtuple|NamedTuple|TypedDict|TYPE_CHECKING|abstractmethod)\b|"
                   r"dataclass|overload|contextmanager")
UNUSED = set("""
    register mro elements open input version_info with_traceback add_note attrgetter breakpoint builtins compile
    copyright credits delattr dir eval exec exit gc getattr globals hasattr help id importlib license locals
    methodcaller os quit setattr super sys vars format format_map
""".split())


def trees():
    return [(path, ast.parse(path.read_text(encoding="utf-8"))) for path in FILES]


def bound_names(tree):
    names = []
    for node in ast.walk(tree):
        if isinstance(node, (ast.FunctionDef, ast.ClassDef)):
            names.append(node.name)
        elif isinstance(node, ast.arg):
            names.append(node.arg)
        elif isinstance(node, ast.Name) and isinstance(node.ctx, ast.Store):
            names.append(node.id)
        elif isinstance(node, ast.Attribute) and isinstance(node.ctx, ast.Store):
            names.append(node.attr)
        elif isinstance(node, ast.alias):
            names.append(node.name)
    return names


class Form(unittest.TestCase):
    def test_files(self):
        others = [path.name for path in PACKAGE.iterdir() if path not in FILES and path.name != "__pycache__"]
        self.assertEqual(others, [])
        self.assertTrue((PACKAGE / "__init__.py").is_file())
        for path in FILES:
            self.assertRegex(path.name, r"^[a-z_][a-z0-9_]*\.py$")
            self.assertNotIn(path.stem, dir(builtins))

    def test_rows(self):
        for path in FILES:
            text = path.read_bytes()
            self.assertEqual({byte for byte in text if byte != 10 and not 32 <= byte <= 126}, set(), path.name)
            rows = text.decode().split("\n")
            self.assertLessEqual(len(rows), 400, path.name)
            self.assertLessEqual(max(map(len, rows)), 120, path.name)
            self.assertIsNone(WORDS.search(text.decode()), path.name)

    def test_functions_are_short(self):
        for path, tree in trees():
            for node in ast.walk(tree):
                if isinstance(node, ast.FunctionDef):
                    self.assertLessEqual(node.end_lineno - node.lineno + 1, 40, (path.name, node.name))

    def test_only_the_listed_forms(self):
        for path, tree in trees():
            for node in ast.walk(tree):
                where = (path.name, getattr(node, "lineno", 0), node.__class__.__name__)
                self.assertIn(node.__class__.__name__, NODES, where)
                if isinstance(node, ast.Assign):
                    self.assertEqual(len(node.targets), 1, where)
                    self.assertNotIsInstance(node.targets[0], (ast.Tuple, ast.List), where)
                if isinstance(node, (ast.For, ast.While)):
                    self.assertEqual(node.orelse, [], where)
                if isinstance(node, ast.ListComp):
                    self.assertEqual(len(node.generators), 1, where)
                    self.assertLessEqual(len(node.generators[0].ifs), 1, where)
                if isinstance(node, ast.FormattedValue):
                    self.assertIsInstance(node.value, ast.Name, where)
                if isinstance(node, (ast.FunctionDef, ast.ClassDef)):
                    self.assertEqual(node.decorator_list, [], where)
                if isinstance(node, ast.Constant) and isinstance(node.value, str):
                    self.assertNotIn("%", node.value, where)
                if isinstance(node, ast.Constant):
                    self.assertNotIsInstance(node.value, (float, bytes, complex), where)
                if isinstance(node, ast.Expr) and node not in tree.body[:1]:
                    self.assertIsInstance(node.value, ast.Call, where)

    def test_imports(self):
        drawn = {}
        for path, tree in trees():
            drawn[f"leastflows.{path.stem}"] = []
            for node in ast.walk(tree):
                if isinstance(node, ast.ImportFrom):
                    self.assertIn(node, tree.body)
                    self.assertEqual(node.level, 0)
                    self.assertRegex(node.module, r"^leastflows\.[a-z]+$")
                    self.assertTrue(all(part.asname is None for part in node.names))
                    source = ast.parse((PACKAGE / f"{node.module.split('.')[1]}.py").read_text())
                    tops = [top.name if hasattr(top, "name") else top.targets[0].id for top in source.body
                            if isinstance(top, (ast.FunctionDef, ast.ClassDef, ast.Assign))]
                    self.assertEqual([part.name for part in node.names if part.name not in tops], [], path.name)
                    drawn[f"leastflows.{path.stem}"].append(node.module)
        while drawn:
            free = [module for module, sources in drawn.items() if not set(sources) & set(drawn)]
            self.assertNotEqual(free, [], "files that draw from one another")
            for module in free:
                drawn.pop(module)

    def test_names(self):
        for path, tree in trees():
            defined = bound_names(tree)
            for name in [name for name in defined if name not in DUNDERS]:
                self.assertRegex(name, r"^[A-Za-z][A-Za-z0-9_]*$", path.name)
                self.assertNotIn(name, UNUSED, path.name)
                self.assertNotIn(name, dir(builtins), path.name)
            for node in ast.walk(tree):
                if isinstance(node, ast.Name) and node.id not in defined:
                    self.assertIn(node.id, OWN_NAMES, (path.name, node.lineno))

    def test_methods(self):
        own = {method.name for path, tree in trees() for node in ast.walk(tree) if isinstance(node, ast.ClassDef)
               for method in node.body if isinstance(method, ast.FunctionDef)}
        values = set()
        for path, tree in trees():
            called = [node.func for node in ast.walk(tree) if isinstance(node, ast.Call)]
            for node in ast.walk(tree):
                if isinstance(node, ast.Attribute) and node in called:
                    self.assertIn(node.attr, METHODS | own, (path.name, node.lineno))
                elif isinstance(node, ast.Attribute):
                    values.add(node.attr)
        self.assertEqual(values & (own | METHODS | {"args", "sort", "encode"}), set())

    def test_tops_are_plain_values(self):
        for path, tree in trees():
            defined = []
            for node in tree.body:
                if isinstance(node, ast.FunctionDef):
                    defined.append(node.name)
                if isinstance(node, ast.Assign):
                    for inner in ast.walk(node.value):
                        where = (path.name, node.lineno)
                        self.assertIsInstance(inner, (ast.Constant, ast.Dict, ast.List, ast.Tuple, ast.Name, ast.Load,
                                                      ast.UnaryOp, ast.USub), where)
                        if isinstance(inner, ast.Name):
                            self.assertIn(inner.id, defined, where)
                        if inner is not node.value:
                            self.assertNotIsInstance(inner, (ast.Dict, ast.List), where)


if __name__ == "__main__":
    unittest.main()
