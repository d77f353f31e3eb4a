"""The package's files keep to the part of Python that they are to be written in, as far as it can be seen here."""

import ast
import builtins
import pathlib
import re
import unittest

PACKAGE = pathlib.Path(__file__).resolve().parent.parent / "ageclasses"

NODES = set("""
Module Expr FunctionDef ClassDef Return Assign For While If Raise Try Pass Break Continue ImportFrom alias
arguments arg BoolOp And Or BinOp Add Sub Mult FloorDiv Mod Pow BitAnd BitOr BitXor LShift RShift UnaryOp Not USub
Invert Lambda IfExp Dict Compare Eq NotEq Lt LtE Gt GtE Is IsNot In NotIn Call keyword Constant Attribute Subscript
Slice Name List Tuple ListComp comprehension Load Store AugAssign ExceptHandler JoinedStr FormattedValue
""".split())

BUILT_IN = set("""
len range enumerate zip min max sum abs sorted reversed int str bool list tuple dict set frozenset isinstance ord
repr any all divmod Exception ValueError TypeError KeyError IndexError LookupError ZeroDivisionError ArithmeticError
OverflowError RuntimeError NotImplementedError AttributeError StopIteration
""".split())

METHODS = set("""
append clear copy count endswith extend find get index insert isalnum isalpha isdigit islower isspace isupper items
join keys ljust lower lstrip partition pop remove replace reverse rfind rjust rpartition rsplit rstrip setdefault
split splitlines startswith strip update upper values zfill bit_length
""".split())

WORDS = re.compile(r"""\b(type|typing|typing_extensions|enum|Enum|IntEnum|StrEnum|Flag|IntFlag|Generic|Protocol|ABC
|ABCMeta|namedtuple|NamedTuple|TypedDict|TYPE_CHECKING|abstractmethod)\b|dataclass|overload|contextmanager""",
                   re.VERBOSE)


def files():
    return sorted(PACKAGE.glob("*.py"))


def trees():
    return [(path.name, ast.parse(path.read_text("utf-8"))) for path in files()]


def walk(kind):
    return [(name, node) for name, tree in trees() for node in ast.walk(tree) if isinstance(node, kind)]


def bound_names(tree):
    names = set()
    for node in ast.walk(tree):
        if isinstance(node, (ast.FunctionDef, ast.ClassDef)):
            names.add(node.name)
        elif isinstance(node, ast.arg):
            names.add(node.arg)
        elif isinstance(node, ast.alias):
            names.add(node.asname or node.name)
        elif isinstance(node, ast.Name) and isinstance(node.ctx, ast.Store):
            names.add(node.id)
    return names


def top_names(tree):
    """What a file itself defines at its top, imports left out."""
    defined = [node.name for node in tree.body if isinstance(node, (ast.FunctionDef, ast.ClassDef))]
    return defined + [node.targets[0].id for node in tree.body if isinstance(node, ast.Assign)]


def drawn_from(tree):
    return [node.module.split(".")[1] for node in tree.body if isinstance(node, ast.ImportFrom)]


class Files(unittest.TestCase):
    def test_only_plain_files(self):
        found = [path.name for path in PACKAGE.iterdir() if path.name != "__pycache__"]
        self.assertEqual(sorted(found), [path.name for path in files()])
        for name in found:
            self.assertRegex(name, r"^([a-z][a-z0-9_]*|__init__|__main__)\.py$")
        self.assertIn("__init__.py", found)

    def test_signs_and_sizes(self):
        for path in files():
            rows = path.read_text("utf-8").split("\n")
            self.assertLessEqual(len(rows), 400, path.name)
            for row in rows:
                self.assertRegex(row, r"^[ -~]{0,120}$", path.name)
                self.assertIsNone(WORDS.search(row), (path.name, row))

    def test_functions_are_short(self):
        for name, node in walk(ast.FunctionDef):
            self.assertLessEqual(node.end_lineno - node.lineno + 1, 40, (name, node.name))
            self.assertEqual(node.decorator_list, [])
            self.assertFalse(node.args.vararg or node.args.kwarg or node.args.kwonlyargs, node.name)


class Forms(unittest.TestCase):
    def test_nodes(self):
        for name, node in walk(ast.AST):
            self.assertIn(node.__class__.__name__, NODES, (name, getattr(node, "lineno", 0)))

    def test_small_forms(self):
        for name, node in walk(ast.Assign):
            self.assertEqual(len(node.targets), 1, (name, node.lineno))
        for name, node in walk(ast.ListComp):
            self.assertEqual(len(node.generators), 1, (name, node.lineno))
            self.assertLessEqual(len(node.generators[0].ifs), 1, (name, node.lineno))
        for name, node in walk((ast.For, ast.While)):
            self.assertEqual(node.orelse, [], (name, node.lineno))
        for name, node in walk(ast.Constant):
            self.assertIsInstance(node.value, (int, str, bool, None.__class__), (name, node.lineno))
        for name, node in walk(ast.BinOp):
            if isinstance(node.op, ast.Pow):
                self.assertIsInstance(node.right, ast.Constant, (name, node.lineno))

    def test_imports(self):
        for name, node in walk(ast.ImportFrom):
            self.assertEqual(node.level, 0, name)
            self.assertRegex(node.module, r"^ageclasses\.[a-z_]+$", name)

    def test_imports_from_the_file_that_defines(self):
        defined = {name: top_names(tree) for name, tree in trees()}
        for name, node in walk(ast.ImportFrom):
            for alias in node.names:
                self.assertIsNone(alias.asname, name)
                self.assertIn(alias.name, defined[node.module.split(".")[1] + ".py"], name)

    def test_no_two_files_draw_from_one_another(self):
        left = {name[:-3]: drawn_from(tree) for name, tree in trees()}
        while left:
            ready = [name for name, sources in left.items() if not set(sources) & set(left)]
            self.assertNotEqual(ready, [], left)
            for name in ready:
                del left[name]

    def test_no_local_is_called_like_an_import_or_a_class(self):
        for name, tree in trees():
            kept = {alias.name for node in tree.body if isinstance(node, ast.ImportFrom) for alias in node.names}
            kept |= {node.name for node in tree.body if isinstance(node, ast.ClassDef)}
            for node in ast.walk(tree):
                if isinstance(node, ast.arg):
                    self.assertNotIn(node.arg, kept, name)
                elif isinstance(node, ast.Name) and isinstance(node.ctx, ast.Store):
                    self.assertNotIn(node.id, kept, name)

    def test_names(self):
        for name, tree in trees():
            bound = bound_names(tree)
            self.assertEqual((bound - {"__init__"}) & set(dir(builtins)), set(), name)
            for word in bound:
                self.assertRegex(word, r"^([A-Za-z][A-Za-z0-9_]*|__init__)$", name)
            for node in ast.walk(tree):
                if isinstance(node, ast.Name):
                    self.assertIn(node.id, bound | BUILT_IN, (name, node.lineno))

    def test_methods(self):
        own = {node.name for _, node in walk(ast.FunctionDef)}
        for name, node in walk(ast.Call):
            if isinstance(node.func, ast.Attribute):
                self.assertIn(node.func.attr, own | METHODS, (name, node.lineno))

    def test_names_bound_once_at_the_top(self):
        for name, tree in trees():
            bound = []
            for node in tree.body:
                if isinstance(node, (ast.FunctionDef, ast.ClassDef)):
                    bound.append(node.name)
                elif isinstance(node, ast.ImportFrom):
                    bound += [alias.name for alias in node.names]
                elif isinstance(node, ast.Assign):
                    bound.append(node.targets[0].id)
                else:
                    self.assertIsInstance(node, ast.Expr, name)
                    self.assertIsInstance(node.value, ast.Constant, name)
            self.assertEqual(len(bound), len(set(bound)), name)


if __name__ == "__main__":
    unittest.main()
