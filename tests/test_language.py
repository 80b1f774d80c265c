"""The form of the package's files: the rules of the language that can be read off each line or name."""

import ast
import builtins
import pathlib
import re
import unittest

PACKAGE = pathlib.Path(__file__).resolve().parent.parent / "strongbit"

ALLOWED_BUILTINS = set(
    "len range enumerate zip min max sum abs sorted reversed int str bool bytes list tuple dict set frozenset "
    "isinstance ord repr any all divmod Exception ValueError TypeError KeyError IndexError LookupError "
    "ZeroDivisionError ArithmeticError OverflowError RuntimeError NotImplementedError AttributeError StopIteration "
    "NotImplemented iter next super property staticmethod classmethod".split())

BARRED_WORDS = re.compile(
    r"\b(type|typing|typing_extensions|enum|Enum|IntEnum|StrEnum|Flag|IntFlag|Generic|Protocol|ABC|ABCMeta|namedtuple"
    r"|NamedTuple|TypedDict|TYPE_CHECKING|abstractmethod)\b|dataclass|overload|contextmanager")

BARRED_NAMES = set(
    "register mro elements open input law version_info with_traceback add_note attrgetter breakpoint builtins compile "
    "copyright credits delattr dir eval exec exit gc getattr globals hasattr help id importlib license locals "
    "methodcaller os quit setattr type vars sys".split())

DOUBLE = set(
    "__init__ __eq__ __repr__ __str__ __len__ __enter__ __exit__ __call__ __iter__ __lt__ __le__ __gt__ __ge__ __ne__ "
    "__contains__ __bool__ __getitem__ __setitem__".split())

BARRED_NODES = (ast.Global, ast.AsyncFunctionDef, ast.AsyncFor, ast.AsyncWith, ast.Await, ast.Div)


def files():
    """The files of the package."""
    return sorted(path for path in PACKAGE.rglob("*") if path.is_file() and "__pycache__" not in path.parts)


def trees():
    """Each file with its tree."""
    return [(path.name, ast.parse(path.read_text())) for path in files()]


def names_bound(node):
    """The names that a node gives a meaning."""
    if isinstance(node, (ast.FunctionDef, ast.ClassDef)):
        return [node.name]
    if isinstance(node, ast.arg):
        return [node.arg]
    if isinstance(node, ast.Name) and isinstance(node.ctx, ast.Store):
        return [node.id]
    if isinstance(node, ast.Attribute) and isinstance(node.ctx, ast.Store):
        return [node.attr]
    return []


class TestLanguage(unittest.TestCase):
    def test_files_and_lines(self):
        for path in files():
            text = path.read_text(encoding="utf-8")
            self.assertRegex(path.name, r"^[a-z0-9_]+\.py$")
            self.assertRegex(text, r"^[ -~\n]*$", path.name)
            lines = text.splitlines()
            self.assertLessEqual(len(lines), 399, path.name)
            for number, line in enumerate(lines, 1):
                self.assertLessEqual(len(line), 120, f"{path.name}:{number}")
                self.assertIsNone(BARRED_WORDS.search(line), f"{path.name}:{number}")

    def test_imports_are_from_the_package(self):
        for name, tree in trees():
            for node in ast.walk(tree):
                self.assertNotIsInstance(node, ast.Import, name)
                if isinstance(node, ast.ImportFrom):
                    self.assertIn(node, tree.body, name)
                    self.assertEqual(node.level, 0, name)
                    self.assertTrue(node.module.startswith("strongbit."), name)

    def test_module_level(self):
        for name, tree in trees():
            for node in tree.body:
                docstring = isinstance(node, ast.Expr) and node is tree.body[0] and isinstance(node.value, ast.Constant)
                plain = (ast.ImportFrom, ast.FunctionDef, ast.ClassDef, ast.Assign)
                self.assertTrue(docstring or isinstance(node, plain), f"{name}:{node.lineno}")
                if isinstance(node, ast.Assign):
                    for inner in ast.walk(node.value):
                        self.assertNotIsInstance(inner, (ast.Call, ast.ListComp, ast.Set), f"{name}:{node.lineno}")

    def test_functions_are_short(self):
        for name, tree in trees():
            for node in ast.walk(tree):
                if isinstance(node, ast.FunctionDef):
                    self.assertLessEqual(node.end_lineno - node.lineno + 1, 40, f"{name}:{node.lineno}")
                    self.assertEqual(node.args.posonlyargs, [], f"{name}:{node.lineno}")

    def test_decorators(self):
        for name, tree in trees():
            for node in ast.walk(tree):
                for decorator in getattr(node, "decorator_list", []):
                    self.assertRegex(ast.unparse(decorator), r"^(property|staticmethod|classmethod|\w+\.setter)$", name)
                    self.assertIsInstance(node, ast.FunctionDef, name)

    def test_names(self):
        for name, tree in trees():
            for node in ast.walk(tree):
                for bound in names_bound(node):
                    place = f"{name}:{node.lineno} {bound}"
                    self.assertTrue(bound in DOUBLE or not bound.startswith("_"), place)
                    if not isinstance(node, ast.Attribute):
                        self.assertNotIn(bound, BARRED_NAMES, place)
                        self.assertFalse(hasattr(builtins, bound) and bound not in DOUBLE, place)
                if isinstance(node, ast.Name) and hasattr(builtins, node.id):
                    self.assertIn(node.id, ALLOWED_BUILTINS, f"{name}:{node.lineno}")

    def test_values_and_statements(self):
        for name, tree in trees():
            for node in ast.walk(tree):
                place = f"{name}:{getattr(node, 'lineno', 0)}"
                self.assertNotIsInstance(node, BARRED_NODES, place)
                if isinstance(node, ast.Constant):
                    self.assertNotIsInstance(node.value, (float, complex), place)
                    self.assertFalse(isinstance(node.value, str) and "%" in node.value, place)
                if isinstance(node, ast.Compare):
                    for operator, right in zip(node.ops, node.comparators):
                        if isinstance(operator, (ast.Is, ast.IsNot)):
                            self.assertIn(ast.unparse(right), ("None", "True", "False"), place)


if __name__ == "__main__":
    unittest.main()
