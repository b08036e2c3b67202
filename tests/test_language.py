"""What can be looked at by machine of the rules of LANGUAGE.md, in every file of the package."""

import ast
import builtins
import importlib
import pathlib
import unittest

PACKAGE = pathlib.Path(__file__).resolve().parent.parent / "longernearer"

BUILTINS = """
    len range enumerate zip min max sum abs sorted reversed int str bool bytes list tuple dict set frozenset
    isinstance ord repr any all divmod pow getattr hasattr setattr iter next map type super property staticmethod
    classmethod Exception ValueError TypeError KeyError IndexError LookupError ZeroDivisionError ArithmeticError
    OverflowError RuntimeError NotImplementedError AttributeError StopIteration NotImplemented
""".split()
LIBRARY = ("heapq", "math", "itertools", "collections")


BARRED = """
    register mro elements open input law version_info with_traceback add_note attrgetter breakpoint builtins compile
    copyright credits delattr dir eval exec exit gc globals help id importlib license locals methodcaller os quit vars sys
    typing typing_extensions enum Enum IntEnum StrEnum Flag IntFlag Generic Protocol ABC ABCMeta namedtuple NamedTuple
    TypedDict TYPE_CHECKING abstractmethod _cold _tuplegetter _outside _record _written_out _member_names
""".split()
BEGINNINGS = ("_wall", "_pe_", "_dcw_", "_enum_", "_cm_", "_twin_re_", "_lay_", "_law_", "_stub_", "_sre", "_WallAttr")
METHODS = ("__init__", "__eq__")


def files():
    """Return all that stands in the package but what Python itself keeps there."""
    return [path for path in sorted(PACKAGE.rglob("*")) if "__pycache__" not in path.parts]


def trees():
    return [(path.name, ast.parse(path.read_text(encoding="utf-8"))) for path in files()]


def names_in(node):
    """Return the names that a node has or gives."""
    fields = ("id", "arg", "attr", "name")
    return [word for word in (getattr(node, field, None) for field in fields) if isinstance(word, str)]


class LanguageTest(unittest.TestCase):

    def test_files(self):
        self.assertIn("__init__.py", [path.name for path in files()])
        for path in files():
            self.assertRegex(str(path.relative_to(PACKAGE)), r"\A[a-z_][a-z0-9_]*\.py\Z")

    def test_sizes_and_signs(self):
        for path in files():
            text = path.read_text(encoding="utf-8")
            self.assertRegex(text, r"\A[ -~\n]*\n\Z", path.name)
            self.assertLessEqual(text.count("\n"), 399, path.name)
            for number, line in enumerate(text.split("\n"), start=1):
                self.assertLessEqual(len(line), 120, f"{path.name}:{number}")

    def test_functions_are_small(self):
        for name, tree in trees():
            for node in ast.walk(tree):
                if isinstance(node, ast.FunctionDef):
                    self.assertLessEqual(node.end_lineno - node.lineno + 1, 40, f"{name}:{node.lineno}")

    def test_imports_name_the_file_that_defines(self):
        for name, tree in trees():
            for node in ast.walk(tree):
                self.assertNotIsInstance(node, ast.Import, name)
                if isinstance(node, ast.ImportFrom) and node.module not in LIBRARY:
                    self.assertIn(node, tree.body, name)
                    self.assertRegex(node.module, r"\Alongernearer\.[a-z]+\Z", name)
                    self.assert_defined(node)

    def assert_defined(self, node):
        module = importlib.import_module(node.module)
        for alias in node.names:
            self.assertIsNone(alias.asname)
            told = getattr(getattr(module, alias.name), "__module__", node.module)
            self.assertEqual(told, node.module, alias.name)

    def test_builtins(self):
        taken = set(dir(builtins))
        others = taken - set(BUILTINS)
        for name, tree in trees():
            for node in ast.walk(tree):
                if isinstance(node, ast.Name):
                    self.assertNotIn(node.id, others, f"{name}:{node.lineno}")
                if isinstance(node, (ast.FunctionDef, ast.ClassDef)):
                    self.assertNotIn(node.name, taken, f"{name}:{node.lineno}")
                if isinstance(node, ast.arg):
                    self.assertNotIn(node.arg, taken, f"{name}:{node.lineno}")

    def test_names(self):
        for name, tree in trees():
            for node in ast.walk(tree):
                for word in names_in(node):
                    self.assertNotIn(word, BARRED, f"{name}:{node.lineno}")
                    self.assertFalse(word.startswith(BEGINNINGS), f"{name}:{node.lineno}")
                    if word.startswith("__"):
                        self.assertIn(word, METHODS, f"{name}:{node.lineno}")

    def test_no_name_of_an_import_again(self):
        for name, tree in trees():
            imported = [alias.name for node in tree.body if isinstance(node, ast.ImportFrom) for alias in node.names]
            defined = [node.name for node in tree.body if isinstance(node, (ast.FunctionDef, ast.ClassDef))]
            self.assertEqual(len(imported + defined), len({*imported, *defined}), name)
            used = {node.id for node in ast.walk(tree) if isinstance(node, ast.Name) and isinstance(node.ctx, ast.Load)}
            self.assertEqual(set(imported) - used, set(), name)
            for node in ast.walk(tree):
                if isinstance(node, ast.Name) and isinstance(node.ctx, ast.Store):
                    self.assertNotIn(node.id, imported, f"{name}:{node.lineno}")
                if isinstance(node, ast.arg):
                    self.assertNotIn(node.arg, imported, f"{name}:{node.lineno}")

    def test_what_may_stand_in_functions(self):
        for name, tree in trees():
            for node in ast.walk(tree):
                # A class has __eq__, so any, all, min, max, sum and sorted take lists.
                self.assertNotIsInstance(node, (ast.GeneratorExp, ast.Set, ast.SetComp, ast.Global, ast.AsyncFunctionDef), name)
                if isinstance(node, ast.Constant) and isinstance(node.value, str):
                    self.assertNotIn("%", node.value, name)
                if isinstance(node, ast.FunctionDef):
                    for decorator in node.decorator_list:
                        self.assertIn(ast.unparse(decorator), ("property",), f"{name}:{node.lineno}")

    def test_no_floats(self):
        for name, tree in trees():
            for node in ast.walk(tree):
                self.assertNotIsInstance(node, ast.Div, name)
                if isinstance(node, ast.Constant):
                    self.assertNotIsInstance(node.value, (float, complex), name)
