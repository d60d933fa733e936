"""The package's own files keep to the small part of Python that it is written in."""

import ast
import builtins
import re
import unittest
from pathlib import Path

PACKAGE = Path(__file__).resolve().parent.parent / "guisery"

OWN_NAMES = set(
    "len range enumerate zip min max sum abs sorted reversed int str bool bytes list tuple dict set frozenset "
    "isinstance ord repr any all divmod Exception ValueError TypeError KeyError IndexError LookupError "
    "ZeroDivisionError ArithmeticError OverflowError RuntimeError NotImplementedError AttributeError "
    "StopIteration".split()
)
UNDERSCORED = {"__init__", "__eq__", "__repr__", "__str__", "__len__"}
WORDS_OUT = re.compile(
    r"\b(type|typing|typing_extensions|enum|Enum|IntEnum|StrEnum|Flag|IntFlag|Generic|Protocol|ABC|ABCMeta"
    r"|namedtuple|NamedTuple|TypedDict|TYPE_CHECKING|abstractmethod)\b|dataclass|overload|contextmanager"
)
NODES_OUT = (
    ast.Import, ast.With, ast.Match, ast.Global, ast.Nonlocal, ast.Yield, ast.YieldFrom, ast.AsyncFunctionDef,
    ast.Await, ast.GeneratorExp, ast.NamedExpr, ast.Div, ast.MatMult,
)

METHODS = set(
    "append clear copy count endswith extend find get index insert isalnum isalpha isdigit islower isspace isupper "
    "items join keys ljust lower lstrip partition pop remove replace reverse rfind rjust rpartition rsplit rstrip "
    "setdefault split splitlines startswith strip update upper values zfill bit_length removeprefix removesuffix".split()
)
NAMES_OUT = set(
    "register mro elements open input version_info with_traceback add_note attrgetter breakpoint builtins compile "
    "copyright credits delattr dir eval exec exit gc getattr globals hasattr help id importlib license locals "
    "methodcaller os quit setattr super type vars sys args".split()
)


def sources():
    return [(path.name, path.read_text(encoding="utf-8")) for path in sorted(PACKAGE.glob("*.py"))]


def nodes():
    for name, text in sources():
        for node in ast.walk(ast.parse(text)):
            yield f"{name}:{getattr(node, 'lineno', 0)}", node


def names_given(node):
    if isinstance(node, (ast.FunctionDef, ast.ClassDef)):
        return [node.name]
    if isinstance(node, ast.arg):
        return [node.arg]
    if isinstance(node, ast.Attribute):
        return [node.attr]
    if isinstance(node, ast.Name):
        return [node.id]
    return []


def trees():
    return {name[:-3]: ast.parse(text) for name, text in sources()}


def names_at_top(tree):
    """The names that a file gives at its top, its imports aside."""
    given = [node.name for node in tree.body if isinstance(node, (ast.FunctionDef, ast.ClassDef))]
    return given + [target.id for node in tree.body if isinstance(node, ast.Assign) for target in node.targets]


def imports(tree):
    """Pairs of a file and a name that is drawn from it."""
    return [
        (node.module.split(".")[1], alias.name)
        for node in tree.body if isinstance(node, ast.ImportFrom) for alias in node.names
    ]


def own_methods():
    return {
        node.name for tree in trees().values() for held in ast.walk(tree) if isinstance(held, ast.ClassDef)
        for node in held.body if isinstance(node, ast.FunctionDef)
    }


def own_values():
    return {node.attr for at, node in nodes() if isinstance(node, ast.Attribute) and isinstance(node.ctx, ast.Store)}


class Source(unittest.TestCase):
    def test_the_folder_holds_plain_files_alone(self):
        held = [path.name for path in PACKAGE.iterdir() if path.name != "__pycache__"]
        self.assertIn("__init__.py", held)
        for name in held:
            self.assertRegex(name, r"^[a-z0-9_]+\.py$")

    def test_signs_words_and_sizes(self):
        for name, text in sources():
            rows = text.split("\n")
            self.assertLessEqual(len(rows), 400, name)
            self.assertRegex(text, r"^[ -~\n]*$", name)
            self.assertIsNone(WORDS_OUT.search(text), name)
            for row in rows:
                self.assertLessEqual(len(row), 120, f"{name}: {row}")

    def test_defs_are_short_and_plain(self):
        for at, node in nodes():
            if isinstance(node, ast.FunctionDef):
                self.assertLessEqual(node.end_lineno - node.lineno + 1, 40, at)
                self.assertFalse(node.decorator_list or node.args.vararg or node.args.kwarg or node.args.posonlyargs, at)

    def test_imports_are_of_the_package_alone(self):
        for at, node in nodes():
            if isinstance(node, ast.ImportFrom):
                self.assertEqual(node.level, 0, at)
                self.assertRegex(node.module, r"^guisery\.[a-z_]+$", at)
                self.assertNotIn("*", [alias.name for alias in node.names], at)

    def test_no_form_stands_that_is_out(self):
        for at, node in nodes():
            self.assertNotIsInstance(node, NODES_OUT, at)
            if isinstance(node, ast.Constant):
                self.assertNotIsInstance(node.value, (float, complex), at)
                self.assertFalse(isinstance(node.value, str) and "%" in node.value, at)
            if isinstance(node, (ast.For, ast.While)):
                self.assertEqual(node.orelse, [], at)

    def test_names_are_plain(self):
        for at, node in nodes():
            for name in names_given(node):
                self.assertTrue(name in UNDERSCORED or re.match(r"^[A-Za-z][A-Za-z0-9_]*$", name), f"{at}: {name}")

    def test_of_pythons_own_names_the_listed_ones_alone(self):
        for at, node in nodes():
            if isinstance(node, ast.Name) and hasattr(builtins, node.id):
                self.assertIn(node.id, OWN_NAMES, at)
                self.assertIsInstance(node.ctx, ast.Load, at)
            if isinstance(node, ast.arg):
                self.assertFalse(hasattr(builtins, node.arg), at)

    def test_is_stands_beside_none_true_and_false_alone(self):
        for at, node in nodes():
            if isinstance(node, ast.Compare) and any(isinstance(sign, (ast.Is, ast.IsNot)) for sign in node.ops):
                self.assertIsInstance(node.comparators[-1], ast.Constant, at)
                self.assertIn(node.comparators[-1].value, (None, True, False), at)

    def test_calls_are_plain(self):
        for at, node in nodes():
            if isinstance(node, ast.Call):
                self.assertFalse([one for one in node.args if isinstance(one, ast.Starred)], at)
                self.assertFalse([one for one in node.keywords if one.arg is None], at)
            if isinstance(node, ast.FormattedValue):
                self.assertIsNone(node.format_spec, at)

    def test_methods_are_own_ones_or_listed(self):
        methods = METHODS | own_methods()
        values = own_values()
        for at, node in nodes():
            if isinstance(node, ast.Call) and isinstance(node.func, ast.Attribute):
                self.assertIn(node.func.attr, methods, at)
            elif isinstance(node, ast.Attribute):
                self.assertIn(node.attr, methods | values, at)

    def test_no_name_is_a_method_and_a_value(self):
        self.assertEqual(own_methods() & own_values(), set())
        for name in own_methods() - UNDERSCORED:
            self.assertFalse(hasattr(int, name) or hasattr(list, name) or hasattr(dict, name) or hasattr(set, name), name)
            self.assertTrue(name in METHODS or not (hasattr(str, name) or hasattr(bytes, name)), name)

    def test_names_that_are_not_used(self):
        for at, node in nodes():
            for name in names_given(node):
                self.assertNotIn(name, NAMES_OUT, at)

    def test_names_of_a_files_top_are_given_once(self):
        for name, tree in trees().items():
            given = names_at_top(tree) + [drawn for module, drawn in imports(tree)]
            self.assertEqual(sorted(given), sorted(set(given)), name)

    def test_names_are_drawn_from_the_file_that_defines_them(self):
        held = {name: names_at_top(tree) for name, tree in trees().items()}
        for name, tree in trees().items():
            for module, drawn in imports(tree):
                self.assertIn(drawn, held[module], name)

    def test_no_two_files_draw_from_one_another(self):
        drawn = {name: {module for module, held in imports(tree)} for name, tree in trees().items()}
        while drawn:
            free = [name for name in drawn if not drawn[name] & set(drawn)]
            self.assertTrue(free, drawn)
            for name in free:
                del drawn[name]

    def test_locals_are_not_called_like_imports_and_classes(self):
        for name, tree in trees().items():
            out = {drawn for module, drawn in imports(tree)}
            out |= {node.name for node in tree.body if isinstance(node, ast.ClassDef)}
            for node in ast.walk(tree):
                if isinstance(node, ast.arg):
                    self.assertNotIn(node.arg, out, f"{name}:{node.lineno}")
                if isinstance(node, ast.Name) and isinstance(node.ctx, ast.Store):
                    self.assertNotIn(node.id, out, f"{name}:{node.lineno}")

    def test_lists_and_dicts_of_a_files_top_are_only_read_on_the_spot(self):
        for name, tree in trees().items():
            kept = {
                target.id for node in tree.body if isinstance(node, ast.Assign)
                if isinstance(node.value, (ast.Dict, ast.List)) for target in node.targets
            }
            for node in ast.walk(tree):
                parts = [] if isinstance(node, (ast.Subscript, ast.Compare, ast.Assign)) else list(ast.iter_child_nodes(node))
                for part in parts:
                    self.assertFalse(isinstance(part, ast.Name) and part.id in kept, f"{name}:{getattr(part, 'lineno', 0)}")
