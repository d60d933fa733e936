"""The package's own files keep to the small part of Python that it is written in."""

import ast
import builtins
import re
import unittest
from pathlib import Path

PACKAGE = Path(__file__).resolve().parent.parent / "guisery"

OWN_NAMES = set(
    "len range enumerate zip min max sum abs sorted reversed int str bool bytes list tuple dict set frozenset "
    "isinstance ord repr any all divmod Exception ValueError TypeError KeyError IndexError LookupError "
    "ZeroDivisionError ArithmeticError OverflowError RuntimeError NotImplementedError AttributeError "
    "StopIteration".split()
)
UNDERSCORED = {"__init__", "__eq__", "__repr__", "__str__", "__len__"}
WORDS_OUT = re.compile(
    r"\b(type|typing|typing_extensions|enum|Enum|IntEnum|StrEnum|Flag|IntFlag|Generic|Protocol|ABC|ABCMeta"
    r"|namedtuple|NamedTuple|TypedDict|TYPE_CHECKING|abstractmethod)\b|dataclass|overload|contextmanager"
)
NODES_OUT = (
    ast.Import, ast.With, ast.Match, ast.Global, ast.Nonlocal, ast.Yield, ast.YieldFrom, ast.AsyncFunctionDef,
    ast.Await, ast.GeneratorExp, ast.NamedExpr, ast.Div, ast.MatMult,
)


def sources():
    return [(path.name, path.read_text(encoding="utf-8")) for path in sorted(PACKAGE.glob("*.py"))]


def nodes():
    for name, text in sources():
        for node in ast.walk(ast.parse(text)):
            yield f"{name}:{getattr(node, 'lineno', 0)}", node


def names_given(node):
    if isinstance(node, (ast.FunctionDef, ast.ClassDef)):
        return [node.name]
    if isinstance(node, ast.arg):
        return [node.arg]
    if isinstance(node, ast.Attribute):
        return [node.attr]
    if isinstance(node, ast.Name):
        return [node.id]
    return []


class Source(unittest.TestCase):
    def test_the_folder_holds_plain_files_alone(self):
        held = [path.name for path in PACKAGE.iterdir() if path.name != "__pycache__"]
        self.assertIn("__init__.py", held)
        for name in held:
            self.assertRegex(name, r"^[a-z0-9_]+\.py$")

    def test_signs_words_and_sizes(self):
        for name, text in sources():
            rows = text.split("\n")
            self.assertLessEqual(len(rows), 400, name)
            self.assertRegex(text, r"^[ -~\n]*$", name)
            self.assertIsNone(WORDS_OUT.search(text), name)
            for row in rows:
                self.assertLessEqual(len(row), 120, f"{name}: {row}")

    def test_defs_are_short_and_plain(self):
        for at, node in nodes():
            if isinstance(node, ast.FunctionDef):
                self.assertLessEqual(node.end_lineno - node.lineno + 1, 40, at)
                self.assertFalse(node.decorator_list or node.args.vararg or node.args.kwarg or node.args.posonlyargs, at)

    def test_imports_are_of_the_package_alone(self):
        for at, node in nodes():
            if isinstance(node, ast.ImportFrom):
                self.assertEqual(node.level, 0, at)
                self.assertRegex(node.module, r"^guisery\.[a-z_]+$", at)
                self.assertNotIn("*", [alias.name for alias in node.names], at)

    def test_no_form_stands_that_is_out(self):
        for at, node in nodes():
            self.assertNotIsInstance(node, NODES_OUT, at)
            if isinstance(node, ast.Constant):
                self.assertNotIsInstance(node.value, (float, complex), at)
                self.assertFalse(isinstance(node.value, str) and "%" in node.value, at)
            if isinstance(node, (ast.For, ast.While)):
                self.assertEqual(node.orelse, [], at)

    def test_names_are_plain(self):
        for at, node in nodes():
            for name in names_given(node):
                self.assertTrue(name in UNDERSCORED or re.match(r"^[A-Za-z][A-Za-z0-9_]*$", name), f"{at}: {name}")

    def test_of_pythons_own_names_the_listed_ones_alone(self):
        for at, node in nodes():
            if isinstance(node, ast.Name) and hasattr(builtins, node.id):
                self.assertIn(node.id, OWN_NAMES, at)
                self.assertIsInstance(node.ctx, ast.Load, at)
            if isinstance(node, ast.arg):
                self.assertFalse(hasattr(builtins, node.arg), at)
