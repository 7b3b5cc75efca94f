"""The package's own files keep to the small part of Python that they are to keep to, as far as can be seen simply."""

import ast
import builtins
import pathlib
import re
import unittest

PACKAGE = pathlib.Path(__file__).resolve().parent.parent / "fewways"
FILES = sorted(path for path in PACKAGE.rglob("*") if path.is_file() and "__pycache__" not in path.parts)
OWN_NAMES = set("""len range enumerate zip min max sum abs sorted reversed int str bool bytes list tuple dict set frozenset
    isinstance ord repr any all divmod Exception ValueError TypeError KeyError IndexError LookupError ZeroDivisionError
    ArithmeticError OverflowError RuntimeError NotImplementedError AttributeError StopIteration""".split())
METHODS = set("""append clear copy count endswith extend find get index insert isalnum isalpha isdigit islower isspace
    isupper items join keys ljust lower lstrip partition pop remove replace reverse rfind rjust rpartition rsplit rstrip
    setdefault split splitlines startswith strip update upper values zfill bit_length add discard""".split())
WORDS = """type typing typing_extensions enum Enum IntEnum StrEnum Flag IntFlag Generic Protocol ABC ABCMeta namedtuple
    NamedTuple TypedDict TYPE_CHECKING abstractmethod""".split()
BARRED = (ast.GeneratorExp, ast.With, ast.AsyncWith, ast.Match, ast.Global, ast.Nonlocal, ast.Yield, ast.YieldFrom,
          ast.Await, ast.AsyncFunctionDef, ast.AsyncFor, ast.NamedExpr, ast.Div, ast.MatMult, ast.Import)


def trees():
    for path in FILES:
        yield path.name, ast.parse(path.read_text())


def bound(tree):
    """Each name that a file binds, but by an import row."""
    for node in ast.walk(tree):
        if isinstance(node, (ast.FunctionDef, ast.ClassDef)):
            yield node.name
        elif isinstance(node, ast.arg):
            yield node.arg
        elif isinstance(node, ast.Name) and not isinstance(node.ctx, ast.Load):
            yield node.id
        elif isinstance(node, ast.ExceptHandler) and node.name:
            yield node.name


class Language(unittest.TestCase):
    def test_files(self):
        self.assertIn(PACKAGE / "__init__.py", FILES)
        for path in FILES:
            self.assertRegex(path.name, r"\A(__init__|[a-z][a-z0-9_]*)\.py\Z")

    def test_sizes_and_signs(self):
        for path in FILES:
            text = path.read_text()
            self.assertRegex(text, r"\A[ -~\n]*\Z", path)
            self.assertLessEqual(len(text.splitlines()), 400, path)
            self.assertLessEqual(max(len(row) for row in text.splitlines()), 120, path)
            for node in ast.walk(ast.parse(text)):
                if isinstance(node, ast.FunctionDef):
                    self.assertLessEqual(node.end_lineno - node.lineno + 1, 40, (path, node.name))

    def test_words(self):
        for path in FILES:
            text = path.read_text()
            for word in WORDS:
                self.assertIsNone(re.search(rf"\b{word}\b", text), (path, word))
            self.assertIsNone(re.search("dataclass|overload|contextmanager", text), path)

    def test_forms(self):
        for name, tree in trees():
            for node in ast.walk(tree):
                self.assertNotIsInstance(node, BARRED, (name, getattr(node, "lineno", 0)))
                if isinstance(node, (ast.FunctionDef, ast.ClassDef)):
                    self.assertEqual(node.decorator_list, [], (name, node.name))
                if isinstance(node, ast.arguments):
                    self.assertIsNone(node.vararg or node.kwarg, name)
                if isinstance(node, ast.Constant):
                    self.assertNotIsInstance(node.value, (float, complex), name)
                    self.assertFalse(isinstance(node.value, str) and chr(37) in node.value, (name, node.value))
                if isinstance(node, (ast.For, ast.While)):
                    self.assertEqual(node.orelse, [], (name, node.lineno))

    def test_imports(self):
        for name, tree in trees():
            for node in ast.walk(tree):
                if isinstance(node, ast.ImportFrom):
                    self.assertIn(node, tree.body, name)
                    self.assertEqual((node.level, node.module.split(".")[0]), (0, "fewways"), name)
                    source = ast.parse((PACKAGE / (node.module.split(".")[1] + ".py")).read_text())
                    for alias in node.names:
                        self.assertIn(alias.name, set(bound(source)), (name, alias.name))

    def test_names(self):
        for name, tree in trees():
            drawn = {alias.asname or alias.name for node in ast.walk(tree) if isinstance(node, ast.ImportFrom)
                     for alias in node.names}
            given = set(bound(tree))
            for each in given:
                self.assertRegex(each, r"\A[A-Za-z][A-Za-z0-9_]*\Z", name)
                self.assertNotIn(each, dir(builtins), name)
            self.assertEqual(given & drawn, set(), name)
            for node in ast.walk(tree):
                if isinstance(node, ast.Name) and isinstance(node.ctx, ast.Load):
                    self.assertIn(node.id, given | drawn | OWN_NAMES, (name, node.lineno))

    def test_methods(self):
        for name, tree in trees():
            for node in ast.walk(tree):
                if isinstance(node, ast.Attribute):
                    self.assertIn(node.attr, METHODS, (name, node.lineno))

    def test_tests_lie_beside(self):
        for path in FILES:
            self.assertFalse(path.name.startswith("test"), path)


if __name__ == "__main__":
    unittest.main()
