"""The package's own files keep to the small part of Python that they are to keep to, as far as can be seen simply."""

import ast
import builtins
import pathlib
import re
import unittest

PACKAGE = pathlib.Path(__file__).resolve().parent.parent / "fewways"
FILES = sorted(path for path in PACKAGE.rglob("*") if path.is_file() and "__pycache__" not in path.parts)
OWN_NAMES = set("""len range enumerate zip min max sum abs sorted reversed int str bool bytes list tuple dict set frozenset
    isinstance ord repr any all divmod Exception ValueError TypeError KeyError IndexError LookupError ZeroDivisionError
    ArithmeticError OverflowError RuntimeError NotImplementedError AttributeError StopIteration""".split())
METHODS = set("""append clear copy count endswith extend find get index insert isalnum isalpha isdigit islower isspace
    isupper items join keys ljust lower lstrip partition pop remove replace reverse rfind rjust rpartition rsplit rstrip
    setdefault split splitlines startswith strip update upper values zfill bit_length add discard""".split())
WORDS = """type typing typing_extensions enum Enum IntEnum StrEnum Flag IntFlag Generic Protocol ABC ABCMeta namedtuple
    NamedTuple TypedDict TYPE_CHECKING abstractmethod""".split()
BARRED = (ast.GeneratorExp, ast.With, ast.AsyncWith, ast.Match, ast.Global, ast.Nonlocal, ast.Yield, ast.YieldFrom,
          ast.Await, ast.AsyncFunctionDef, ast.AsyncFor, ast.NamedExpr, ast.Div, ast.MatMult, ast.Import)


def trees():
    for path in FILES:
        yield path.name, ast.parse(path.read_text())


def parents(tree):
    """For each node of a tree the one that holds it."""
    return {child: node for node in ast.walk(tree) for child in ast.iter_child_nodes(node)}


def calls_name(node, names):
    return isinstance(node, ast.Call) and isinstance(node.func, ast.Name) and node.func.id in names


def own_of_classes():
    """The methods of the package's own classes, and the values that these give their objects."""
    for name, tree in trees():
        for kind in [node for node in tree.body if isinstance(node, ast.ClassDef)]:
            for node in ast.walk(kind):
                if isinstance(node, ast.FunctionDef):
                    yield node.name
                elif isinstance(node, ast.Attribute) and not isinstance(node.ctx, ast.Load):
                    yield node.attr


def is_plain(node, defs):
    """A value that may be given at a file's top: with functions that stand above it, but with no list or dict within."""
    if isinstance(node, (ast.List, ast.Tuple)):
        return all(is_plain(each, defs) and not isinstance(each, (ast.List, ast.Dict)) for each in node.elts)
    if isinstance(node, ast.Dict):
        return all(is_plain(each, defs) and not isinstance(each, (ast.List, ast.Dict)) for each in node.keys + node.values)
    return isinstance(node, ast.Constant) or (isinstance(node, ast.Name) and node.id in defs)


def bound(tree):
    """Each name that a file binds, but by an import row."""
    for node in ast.walk(tree):
        if isinstance(node, (ast.FunctionDef, ast.ClassDef)):
            yield node.name
        elif isinstance(node, ast.arg):
            yield node.arg
        elif isinstance(node, ast.Name) and not isinstance(node.ctx, ast.Load):
            yield node.id
        elif isinstance(node, ast.ExceptHandler) and node.name:
            yield node.name


class Language(unittest.TestCase):
    def test_files(self):
        self.assertIn(PACKAGE / "__init__.py", FILES)
        for path in FILES:
            self.assertRegex(path.name, r"\A(__init__|[a-z][a-z0-9_]*)\.py\Z")

    def test_sizes_and_signs(self):
        for path in FILES:
            text = path.read_text()
            self.assertRegex(text, r"\A[ -~\n]*\Z", path)
            self.assertLessEqual(len(text.splitlines()), 400, path)
            self.assertLessEqual(max(len(row) for row in text.splitlines()), 120, path)
            for node in ast.walk(ast.parse(text)):
                if isinstance(node, ast.FunctionDef):
                    self.assertLessEqual(node.end_lineno - node.lineno + 1, 40, (path, node.name))

    def test_words(self):
        for path in FILES:
            text = path.read_text()
            for word in WORDS:
                self.assertIsNone(re.search(rf"\b{word}\b", text), (path, word))
            self.assertIsNone(re.search("dataclass|overload|contextmanager", text), path)

    def test_forms(self):
        for name, tree in trees():
            for node in ast.walk(tree):
                self.assertNotIsInstance(node, BARRED, (name, getattr(node, "lineno", 0)))
                if isinstance(node, (ast.FunctionDef, ast.ClassDef)):
                    self.assertEqual(node.decorator_list, [], (name, node.name))
                if isinstance(node, ast.arguments):
                    self.assertIsNone(node.vararg or node.kwarg, name)
                if isinstance(node, ast.Constant):
                    self.assertNotIsInstance(node.value, (float, complex), name)
                    self.assertFalse(isinstance(node.value, str) and chr(37) in node.value, (name, node.value))
                if isinstance(node, (ast.For, ast.While)):
                    self.assertEqual(node.orelse, [], (name, node.lineno))

    def test_imports(self):
        for name, tree in trees():
            for node in ast.walk(tree):
                if isinstance(node, ast.ImportFrom):
                    self.assertIn(node, tree.body, name)
                    self.assertEqual((node.level, node.module.split(".")[0]), (0, "fewways"), name)
                    source = ast.parse((PACKAGE / (node.module.split(".")[1] + ".py")).read_text())
                    for alias in node.names:
                        self.assertIn(alias.name, set(bound(source)), (name, alias.name))

    def test_names(self):
        for name, tree in trees():
            drawn = {alias.asname or alias.name for node in ast.walk(tree) if isinstance(node, ast.ImportFrom)
                     for alias in node.names}
            given = set(bound(tree))
            for each in given:
                self.assertRegex(each, r"\A([A-Za-z][A-Za-z0-9_]*|__init__)\Z", name)
                self.assertNotIn(each, dir(builtins), name)
            self.assertEqual(given & drawn, set(), name)
            for node in ast.walk(tree):
                if isinstance(node, ast.Name) and isinstance(node.ctx, ast.Load):
                    self.assertIn(node.id, given | drawn | OWN_NAMES, (name, node.lineno))

    def test_methods(self):
        own = set(own_of_classes())
        for name, tree in trees():
            for node in ast.walk(tree):
                if isinstance(node, ast.Attribute):
                    self.assertIn(node.attr, METHODS | own, (name, node.lineno))

    def test_own_methods_and_values(self):
        own = list(own_of_classes())
        for each in own:
            for value in ("", 0, [], {}, set(), b"", ()):
                self.assertFalse(each != "__init__" and hasattr(value, each), each)
        for name, tree in trees():
            for node in ast.walk(tree):
                if isinstance(node, ast.ClassDef):
                    self.assertIn(node, tree.body, name)
                    self.assertLessEqual(len(node.bases), 1, (name, node.name))
                    for row in node.body:
                        told = isinstance(row, ast.Expr) and isinstance(row.value, ast.Constant)
                        self.assertTrue(told or isinstance(row, ast.FunctionDef), (name, row.lineno))
                elif isinstance(node, ast.FunctionDef) and node.name == "__init__":
                    self.assertIsInstance(parents(tree)[node], ast.ClassDef, name)
                    self.assertFalse([row for row in ast.walk(node) if isinstance(row, ast.Return)], name)

    def test_values_at_the_top(self):
        for name, tree in trees():
            defs = set()
            for node in tree.body:
                if isinstance(node, ast.FunctionDef):
                    defs.add(node.name)
                if isinstance(node, ast.Assign):
                    self.assertEqual(len(node.targets), 1, (name, node.lineno))
                    self.assertTrue(is_plain(node.value, defs), (name, node.lineno))

    def test_lists_and_dicts_of_the_top_are_only_read(self):
        for name, tree in trees():
            kept = {node.targets[0].id for node in tree.body if isinstance(node, ast.Assign)
                    and isinstance(node.value, (ast.List, ast.Dict))}
            above = parents(tree)
            for node in ast.walk(tree):
                if isinstance(node, ast.Name) and node.id in kept and isinstance(node.ctx, ast.Load):
                    outer = above[node]
                    indexed = isinstance(outer, ast.Subscript) and isinstance(outer.ctx, ast.Load) and outer.value is node
                    asked = isinstance(outer, ast.Compare) and outer.comparators == [node]
                    got = isinstance(outer, ast.Attribute) and outer.attr == "get"
                    self.assertTrue(indexed or asked or got, (name, node.lineno))

    def test_keywords_and_formats(self):
        right = {"sorted": {"key", "reverse"}, "min": {"key", "default"}, "max": {"key", "default"}, "sum": {"start"},
                 "enumerate": {"start"}, "zip": {"strict"}}
        for name, tree in trees():
            for node in ast.walk(tree):
                if isinstance(node, ast.Call) and node.keywords:
                    called = node.func.id if isinstance(node.func, ast.Name) else ""
                    self.assertLessEqual({each.arg for each in node.keywords}, right.get(called, set()), (name, node.lineno))
                if isinstance(node, ast.FormattedValue):
                    self.assertIsNone(node.format_spec, (name, node.lineno))
                if isinstance(node, ast.Starred):
                    self.assertNotIsInstance(node.ctx, ast.Load, (name, node.lineno))

    def test_refusals_are_made_on_the_spot(self):
        for name, tree in trees():
            for node in ast.walk(tree):
                self.assertNotIsInstance(node, ast.Try, name)
                if isinstance(node, ast.Raise):
                    self.assertIsNone(node.cause, (name, node.lineno))
                    self.assertIsInstance(node.exc, ast.Call, (name, node.lineno))
                    self.assertRegex(node.exc.func.id, r"\A(No|Too)[A-Z]", (name, node.lineno))
                    self.assertEqual([type(each) for each in node.exc.args], [ast.Constant], (name, node.lineno))

    def test_top_of_files(self):
        for name, tree in trees():
            kinds = [type(node) for node in tree.body[1:]]
            self.assertIsNotNone(ast.get_docstring(tree), name)
            self.assertLessEqual(set(kinds), {ast.ImportFrom, ast.FunctionDef, ast.ClassDef, ast.Assign}, name)
            tops = [node.name if hasattr(node, "name") else node.targets[0].id for node in tree.body[1:]
                    if not isinstance(node, ast.ImportFrom)]
            self.assertEqual(len(tops), len(set(tops)), name)

    def test_no_two_files_draw_from_one_another(self):
        left = {"fewways." + name[:-3]: {node.module for node in tree.body if isinstance(node, ast.ImportFrom)}
                for name, tree in trees()}
        while left:
            free = {module for module in left if not left[module] & set(left)}
            self.assertTrue(free, left)
            left = {module: drawn for module, drawn in left.items() if module not in free}

    def test_what_is_drawn_is_used(self):
        for name, tree in trees():
            used = {node.id for node in ast.walk(tree) if isinstance(node, ast.Name)}
            for node in tree.body:
                if isinstance(node, ast.ImportFrom):
                    self.assertLessEqual({alias.name for alias in node.names}, used, name)

    def test_is_stands_beside_none_and_truths(self):
        for name, tree in trees():
            for node in ast.walk(tree):
                if isinstance(node, ast.Compare) and any(isinstance(op, (ast.Is, ast.IsNot)) for op in node.ops):
                    self.assertIn(ast.unparse(node.comparators[0]), ("None", "True", "False"), (name, node.lineno))

    def test_walked_at_once(self):
        for name, tree in trees():
            above = parents(tree)
            for node in ast.walk(tree):
                walks = calls_name(node, ("zip", "enumerate", "reversed", "range")) or (
                    isinstance(node, ast.Call) and isinstance(node.func, ast.Attribute)
                    and node.func.attr in ("items", "keys", "values"))
                if walks:
                    outer = above[node]
                    looped = isinstance(outer, (ast.For, ast.comprehension)) and outer.iter is node
                    taken = calls_name(outer, ("list", "tuple", "dict", "sorted", "sum", "any", "all", "enumerate", "zip"))
                    alone = calls_name(outer, ("min", "max")) and outer.args == [node]
                    self.assertTrue(looped or (taken and outer.args[0] is node) or alone, (name, node.lineno))

    def test_sets(self):
        for name, tree in trees():
            above = parents(tree)
            for node in ast.walk(tree):
                if isinstance(node, (ast.Set, ast.SetComp)) or calls_name(node, ("set", "frozenset")):
                    outer = above[node]
                    on_the_spot = isinstance(outer, ast.Compare) or calls_name(outer, ("sorted", "len"))
                    if not on_the_spot:
                        self.assertIsInstance(outer, ast.Assign, (name, node.lineno))
                        self.check_kept_set(name, tree, above, outer)

    def check_kept_set(self, name, tree, above, row):
        """A set that is kept is given once, and asked and changed in few ways."""
        kept = row.targets[0].id
        around = [node for node in ast.walk(tree) if isinstance(node, ast.FunctionDef) and row in ast.walk(node)]
        self.assertEqual(len(around), 1, (name, kept))
        for node in ast.walk(around[0]):
            if isinstance(node, ast.Name) and node.id == kept and node is not row.targets[0]:
                outer = above[node]
                changed = (isinstance(outer, ast.Attribute) and outer.attr in ("add", "discard")
                           and isinstance(above[above[outer]], ast.Expr))
                asked = isinstance(outer, ast.Compare) and outer.comparators == [node]
                told = calls_name(outer, ("len", "sorted"))
                self.assertTrue(changed or asked or told, (name, node.lineno))

    def test_walked_things_are_not_changed(self):
        changes = ("append", "clear", "extend", "insert", "pop", "remove", "reverse", "setdefault", "update", "sort")
        for name, tree in trees():
            for loop in ast.walk(tree):
                if isinstance(loop, ast.For):
                    walked = {node.id for node in ast.walk(loop.iter) if isinstance(node, ast.Name)}
                    for node in [inner for row in loop.body for inner in ast.walk(row)]:
                        if isinstance(node, ast.Attribute) and node.attr in changes:
                            self.assertNotIn(ast.unparse(node.value), walked, (name, node.lineno))
                        if isinstance(node, ast.Subscript) and not isinstance(node.ctx, ast.Load):
                            self.assertNotIn(ast.unparse(node.value), walked, (name, node.lineno))

    def test_tests_lie_beside(self):
        for path in FILES:
            self.assertFalse(path.name.startswith("test"), path)


if __name__ == "__main__":
    unittest.main()
