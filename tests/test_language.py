"""Some of the language's rules, as far as they can be seen in the sources of the package."""

import ast
import pathlib
import re
import unittest

PACKAGE = pathlib.Path(__file__).resolve().parent.parent / "windowfloor"
SOURCES = sorted(path for path in PACKAGE.rglob("*") if path.is_file() and "__pycache__" not in path.parts)
BARRED_WORDS = (
    "type", "typing", "typing_extensions", "enum", "Enum", "IntEnum", "StrEnum", "Flag", "IntFlag", "Generic", "Protocol",
    "ABC", "ABCMeta", "namedtuple", "NamedTuple", "TypedDict", "TYPE_CHECKING", "abstractmethod",
)
BUILTINS = set(dir(__builtins__) if not isinstance(__builtins__, dict) else __builtins__)
ALLOWED_BUILTINS = set(
    "len range enumerate zip min max sum abs sorted reversed int str bool bytes list tuple dict set frozenset isinstance "
    "ord repr any all divmod Exception ValueError TypeError KeyError IndexError LookupError ZeroDivisionError "
    "ArithmeticError OverflowError RuntimeError NotImplementedError AttributeError StopIteration NotImplemented".split()
)
BARRED_NODES = (
    ast.Global, ast.AsyncFunctionDef, ast.AsyncFor, ast.AsyncWith, ast.Await, ast.Div, ast.Import, ast.MatMult,
)


def bound_names(tree):
    for node in ast.walk(tree):
        if isinstance(node, ast.Name) and not isinstance(node.ctx, ast.Load):
            yield node.id
        elif isinstance(node, ast.arg):
            yield node.arg
        elif isinstance(node, (ast.FunctionDef, ast.ClassDef)):
            yield node.name


def imported_names(tree):
    return [alias.name for node in tree.body if isinstance(node, ast.ImportFrom) for alias in node.names]


def each():
    for path in SOURCES:
        text = path.read_text(encoding="utf-8")
        yield path.name, text, ast.parse(text)


class Language(unittest.TestCase):
    def test_files(self):
        self.assertTrue((PACKAGE / "__init__.py") in SOURCES)
        self.assertLessEqual(len(SOURCES), 100)
        for path in SOURCES:
            self.assertRegex(path.name, r"\A[a-z0-9_]+\.py\Z")

    def test_lines_and_characters(self):
        for name, text, tree in each():
            self.assertTrue(all(sign == "\n" or " " <= sign <= "~" for sign in text), name)
            self.assertLessEqual(len(text.splitlines()), 400, name)
            self.assertTrue(all(len(line) <= 120 for line in text.splitlines()), name)

    def test_functions_are_short(self):
        for name, text, tree in each():
            for node in ast.walk(tree):
                if isinstance(node, ast.FunctionDef):
                    self.assertLessEqual(node.end_lineno - node.lineno + 1, 40, (name, node.name))

    def test_words_that_do_not_occur(self):
        for name, text, tree in each():
            for word in BARRED_WORDS:
                self.assertIsNone(re.search(rf"\b{word}\b", text), (name, word))

    def test_nodes_that_do_not_occur(self):
        for name, text, tree in each():
            for node in ast.walk(tree):
                self.assertNotIsInstance(node, BARRED_NODES, name)
                if isinstance(node, ast.Constant):
                    self.assertNotIsInstance(node.value, (float, complex), name)
                if isinstance(node, ast.BinOp) and isinstance(node.op, ast.Pow):
                    self.assertIsInstance(node.right, ast.Constant, name)

    def test_imports(self):
        for name, text, tree in each():
            for node in ast.walk(tree):
                if isinstance(node, ast.ImportFrom):
                    self.assertEqual(node.level, 0, name)
                    self.assertTrue(node.module.startswith("windowfloor."), name)
                    there = ast.parse((PACKAGE / (node.module.split(".")[1] + ".py")).read_text())
                    for alias in node.names:
                        self.assertIsNone(alias.asname, name)
                        self.assertIn(alias.name, list(bound_names(there)), name)
                        self.assertNotIn(alias.name, imported_names(there), name)

    def test_no_import_goes_round(self):
        above = {}
        for name, text, tree in each():
            above[name.removesuffix(".py")] = {n.module.split(".")[1] for n in tree.body if isinstance(n, ast.ImportFrom)}
        while above:
            free = [stem for stem in above if not above[stem] & set(above)]
            self.assertTrue(free, above)
            for stem in free:
                del above[stem]

    def test_names(self):
        for name, text, tree in each():
            imports = imported_names(tree)
            for bound in bound_names(tree):
                self.assertRegex(bound, r"\A([A-Za-z][A-Za-z0-9_]*|__init__)\Z", name)
                self.assertNotIn(bound, BUILTINS, name)
                self.assertNotIn(bound, imports, name)

    def test_builtins(self):
        for name, text, tree in each():
            for node in ast.walk(tree):
                if isinstance(node, ast.Name) and node.id in BUILTINS:
                    self.assertIn(node.id, ALLOWED_BUILTINS, name)

    def test_each_import_is_used(self):
        for name, text, tree in each():
            used = {node.id for node in ast.walk(tree) if isinstance(node, ast.Name)}
            for imported in imported_names(tree):
                self.assertIn(imported, used, name)
