"""The form of the package's files: the rules of the language that can be read off each line or name."""

import ast
import builtins
import pathlib
import re
import unittest

PACKAGE = pathlib.Path(__file__).resolve().parent.parent / "strongbit"

ALLOWED_BUILTINS = set(
    "len range enumerate zip min max sum abs sorted reversed int str bool bytes list tuple dict set frozenset "
    "isinstance ord repr any all divmod Exception ValueError TypeError KeyError IndexError LookupError "
    "ZeroDivisionError ArithmeticError OverflowError RuntimeError NotImplementedError AttributeError StopIteration "
    "NotImplemented iter next super property staticmethod classmethod".split())

BARRED_WORDS = re.compile(
    r"\b(type|typing|typing_extensions|enum|Enum|IntEnum|StrEnum|Flag|IntFlag|Generic|Protocol|ABC|ABCMeta|namedtuple"
    r"|NamedTuple|TypedDict|TYPE_CHECKING|abstractmethod)\b|dataclass|overload|contextmanager")

BARRED_NAMES = set(
    "register mro elements open input law version_info with_traceback add_note attrgetter breakpoint builtins compile "
    "copyright credits delattr dir eval exec exit gc getattr globals hasattr help id importlib license locals "
    "methodcaller os quit setattr type vars sys".split())

DOUBLE = set(
    "__init__ __eq__ __repr__ __str__ __len__ __enter__ __exit__ __call__ __iter__ __lt__ __le__ __gt__ __ge__ __ne__ "
    "__contains__ __bool__ __getitem__ __setitem__".split())

BUILTIN_METHODS = (
    "append clear copy count endswith extend find get index insert isalnum isalpha isdigit islower isspace isupper "
    "items join keys ljust lower lstrip partition pop remove replace reverse rfind rjust rpartition rsplit rstrip "
    "setdefault split splitlines startswith strip update upper values zfill bit_length isascii").split()

CHANGING_METHODS = "append clear extend insert pop remove reverse setdefault sort update add discard".split()

BARRED_NODES = (ast.Global, ast.AsyncFunctionDef, ast.AsyncFor, ast.AsyncWith, ast.Await, ast.Div)


def files():
    """The files of the package."""
    return sorted(path for path in PACKAGE.rglob("*") if path.is_file() and "__pycache__" not in path.parts)


def trees():
    """Each file with its tree."""
    return [(path.name, ast.parse(path.read_text())) for path in files()]


def names_bound(node):
    """The names that a node gives a meaning."""
    if isinstance(node, (ast.FunctionDef, ast.ClassDef)):
        return [node.name]
    if isinstance(node, ast.arg):
        return [node.arg]
    if isinstance(node, ast.Name) and isinstance(node.ctx, ast.Store):
        return [node.id]
    if isinstance(node, ast.Attribute) and isinstance(node.ctx, ast.Store):
        return [node.attr]
    return []


def given(node):
    """The texts of the names, fields and items whose very value an expression may give; none if it makes a new one."""
    if isinstance(node, (ast.Name, ast.Attribute, ast.Subscript)):
        return [ast.unparse(node)]
    if isinstance(node, ast.IfExp):
        return given(node.body) + given(node.orelse)
    if isinstance(node, ast.BoolOp):
        return [text for value in node.values for text in given(value)]
    if isinstance(node, ast.NamedExpr):
        return given(node.target) + given(node.value)
    return []


def walked(node):
    """The texts of what a loop walks that has this expression as its head."""
    if not isinstance(node, ast.Call):
        return given(node)
    if isinstance(node.func, ast.Name) and node.func.id in ("enumerate", "zip", "reversed"):
        return [text for argument in node.args for text in walked(argument)]
    if isinstance(node.func, ast.Attribute) and node.func.attr in ("items", "keys", "values"):
        return given(node.func.value)
    return []


def assigned(node):
    """The pairs (target, value) of a node that assigns."""
    if isinstance(node, ast.Assign):
        pairs = [(target, value) for target in node.targets for value in [node.value, *node.targets]]
    elif isinstance(node, (ast.AnnAssign, ast.NamedExpr)):
        pairs = [(node.target, node.value)]
    else:
        return []
    parts = []
    for target, value in pairs:
        both_in_parts = isinstance(target, ast.Tuple) and isinstance(value, ast.Tuple)
        parts.extend(zip(target.elts, value.elts) if both_in_parts else [(target, value)])
    return parts


def same_values(function, texts):
    """These texts, and all that the rows of a function may let mean the same value, in whatever order they run."""
    known = set(texts)
    pairs = [(ast.unparse(target), text) for node in ast.walk(function) for target, value in assigned(node)
             for text in given(value)]
    more = True
    while more:
        more = {text for pair in pairs if known & set(pair) for text in pair} - known
        known |= more
    return known


def changed(node):
    """The texts of what a node changes."""
    if isinstance(node, ast.Call) and isinstance(node.func, ast.Attribute) and node.func.attr in CHANGING_METHODS:
        return given(node.func.value)
    if isinstance(node, ast.AugAssign) and not isinstance(node.target, ast.Subscript):
        return given(node.target)
    if isinstance(node, ast.Subscript) and isinstance(node.ctx, (ast.Store, ast.Del)):
        return given(node.value)
    return []


def rows_that_change_what_is_walked(tree):
    """The numbers of the rows at which a loop or a comprehension changes what it walks, by whatever name (L23)."""
    rows = set()
    for function in [node for node in ast.walk(tree) if isinstance(node, ast.FunctionDef)]:
        for loop in ast.walk(function):
            if isinstance(loop, ast.For):
                heads, body = [loop.iter], loop.body
            else:
                heads, body = [part.iter for part in getattr(loop, "generators", [])], [loop]
            same = same_values(function, [text for head in heads for text in walked(head)])
            rows.update(node.lineno for part in body for node in ast.walk(part) if same & set(changed(node)))
    return sorted(rows)


class TestLanguage(unittest.TestCase):
    def test_files_and_lines(self):
        for path in files():
            text = path.read_text(encoding="utf-8")
            self.assertRegex(path.name, r"^[a-z0-9_]+\.py$")
            self.assertRegex(text, r"^[ -~\n]*$", path.name)
            lines = text.splitlines()
            self.assertLessEqual(len(lines), 399, path.name)
            for number, line in enumerate(lines, 1):
                self.assertLessEqual(len(line), 120, f"{path.name}:{number}")
                self.assertIsNone(BARRED_WORDS.search(line), f"{path.name}:{number}")

    def test_imports_are_from_the_package(self):
        for name, tree in trees():
            for node in ast.walk(tree):
                self.assertNotIsInstance(node, ast.Import, name)
                if isinstance(node, ast.ImportFrom):
                    self.assertIn(node, tree.body, name)
                    self.assertEqual(node.level, 0, name)
                    self.assertTrue(node.module.startswith("strongbit."), name)

    def test_module_level(self):
        for name, tree in trees():
            for node in tree.body:
                docstring = isinstance(node, ast.Expr) and node is tree.body[0] and isinstance(node.value, ast.Constant)
                plain = (ast.ImportFrom, ast.FunctionDef, ast.ClassDef, ast.Assign)
                self.assertTrue(docstring or isinstance(node, plain), f"{name}:{node.lineno}")
                if isinstance(node, ast.Assign):
                    for inner in ast.walk(node.value):
                        self.assertNotIsInstance(inner, (ast.Call, ast.ListComp, ast.Set), f"{name}:{node.lineno}")

    def test_functions_are_short(self):
        for name, tree in trees():
            for node in ast.walk(tree):
                if isinstance(node, ast.FunctionDef):
                    self.assertLessEqual(node.end_lineno - node.lineno + 1, 40, f"{name}:{node.lineno}")
                    self.assertEqual(node.args.posonlyargs, [], f"{name}:{node.lineno}")

    def test_decorators(self):
        for name, tree in trees():
            for node in ast.walk(tree):
                for decorator in getattr(node, "decorator_list", []):
                    self.assertRegex(ast.unparse(decorator), r"^(property|staticmethod|classmethod|\w+\.setter)$", name)
                    self.assertIsInstance(node, ast.FunctionDef, name)

    def test_names(self):
        for name, tree in trees():
            for node in ast.walk(tree):
                for bound in names_bound(node):
                    place = f"{name}:{node.lineno} {bound}"
                    self.assertTrue(bound in DOUBLE or not bound.startswith("_"), place)
                    if not isinstance(node, ast.Attribute):
                        self.assertNotIn(bound, BARRED_NAMES, place)
                        self.assertFalse(hasattr(builtins, bound) and bound not in DOUBLE, place)
                if isinstance(node, ast.Name) and hasattr(builtins, node.id):
                    self.assertIn(node.id, ALLOWED_BUILTINS, f"{name}:{node.lineno}")

    def test_values_and_statements(self):
        for name, tree in trees():
            for node in ast.walk(tree):
                place = f"{name}:{getattr(node, 'lineno', 0)}"
                self.assertNotIsInstance(node, BARRED_NODES, place)
                if isinstance(node, ast.Constant):
                    self.assertNotIsInstance(node.value, (float, complex), place)
                    self.assertFalse(isinstance(node.value, str) and "%" in node.value, place)
                if isinstance(node, ast.Compare):
                    for operator, right in zip(node.ops, node.comparators):
                        if isinstance(operator, (ast.Is, ast.IsNot)):
                            self.assertIn(ast.unparse(right), ("None", "True", "False"), place)

    def test_no_name_is_a_method_here_and_an_attribute_there(self):
        methods, properties, attributes = set(), set(), set()
        for name, tree in trees():
            for node in ast.walk(tree):
                if isinstance(node, ast.ClassDef):
                    for method in node.body:
                        if isinstance(method, ast.FunctionDef):
                            decorators = [ast.unparse(decorator) for decorator in method.decorator_list]
                            (properties if "property" in decorators else methods).add(method.name)
                if isinstance(node, ast.Attribute) and isinstance(node.ctx, ast.Store):
                    attributes.add(node.attr)
        self.assertEqual(methods & attributes, set())
        self.assertEqual(properties & attributes, set())
        self.assertEqual(properties & methods, set())

    def test_attributes_that_are_read_are_there(self):
        known, read = set(BUILTIN_METHODS), []
        for name, tree in trees():
            for node in ast.walk(tree):
                if isinstance(node, ast.ClassDef):
                    known.update(method.name for method in node.body if isinstance(method, ast.FunctionDef))
                    known.update(target.id for value in node.body if isinstance(value, ast.Assign)
                                 for target in value.targets)
                if isinstance(node, ast.Attribute) and isinstance(node.ctx, ast.Store):
                    known.add(node.attr)
                if isinstance(node, ast.Attribute) and isinstance(node.ctx, ast.Load):
                    read.append((node.attr, f"{name}:{node.lineno}"))
        for attribute, place in read:
            self.assertIn(attribute, known, place)

    def test_no_local_name_is_a_class_or_an_import(self):
        for name, tree in trees():
            taken = {node.name for node in tree.body if isinstance(node, ast.ClassDef)}
            for node in tree.body:
                if isinstance(node, ast.ImportFrom):
                    taken.update(alias.asname or alias.name for alias in node.names)
            for function in [node for node in ast.walk(tree) if isinstance(node, (ast.FunctionDef, ast.Lambda))]:
                for node in ast.walk(function):
                    if isinstance(node, (ast.arg, ast.Name)):
                        for bound in names_bound(node):
                            self.assertNotIn(bound, taken, f"{name}:{node.lineno}")

    def test_imports_have_no_circle_and_come_from_where_names_are_defined(self):
        defined, needs = {}, {}
        for name, tree in trees():
            module = "strongbit." + name[:-len(".py")]
            defined[module] = {node.name for node in tree.body if isinstance(node, (ast.FunctionDef, ast.ClassDef))}
            defined[module].update(target.id for node in tree.body if isinstance(node, ast.Assign)
                                   for target in node.targets)
            needs[module] = [node for node in tree.body if isinstance(node, ast.ImportFrom)]
        for module, imports in needs.items():
            for node in imports:
                self.assertLessEqual({alias.name for alias in node.names}, defined[node.module], module)
        left = {module: {node.module for node in imports} for module, imports in needs.items()}
        while left:
            free = [module for module, others in left.items() if not others & set(left)]
            self.assertTrue(free, left)
            for module in free:
                del left[module]

    def test_generators_and_lazy_values(self):
        taking = ("list", "tuple", "dict", "sorted", "sum", "any", "all", "enumerate", "zip", "min", "max", "reversed")
        for name, tree in trees():
            used = set()
            for node in ast.walk(tree):
                self.assertNotIsInstance(node, (ast.GeneratorExp, ast.Yield, ast.YieldFrom), f"{name}")
                if isinstance(node, (ast.For, ast.comprehension)):
                    used.add(node.iter)
                if isinstance(node, ast.Call) and isinstance(node.func, ast.Name) and node.func.id in taking:
                    used.update(node.args)
            for node in ast.walk(tree):
                if isinstance(node, ast.Call) and node not in used:
                    lazy = isinstance(node.func, ast.Name) and node.func.id in ("range", "zip", "enumerate", "reversed")
                    view = isinstance(node.func, ast.Attribute) and node.func.attr in ("items", "keys", "values")
                    self.assertFalse(lazy or view, f"{name}:{node.lineno}")

    def test_no_loop_changes_what_it_walks(self):
        for name, tree in trees():
            self.assertEqual(rows_that_change_what_is_walked(tree), [], name)

    def test_changes_of_what_a_loop_walks_are_found(self):
        for head, change in (("found", "longer.append(1)"), ("self.kept", "longer.append(1)"),
                             ("found if more else places", "longer.append(1)"), ("more or found", "longer.append(1)"),
                             ("enumerate(found)", "longer.append(1)"), ("found.items()", "longer[0] = 1"),
                             ("zip(places, found)", "longer[0] += 1"), ("reversed(found)", "longer += [1]"),
                             ("found", "del found[0]"), ("found", "x = [found.pop() for y in places]"),
                             ("places", "x = [longer.pop() for y in found]"), ("found[0]", "found[0].append(1)")):
            rows = ("def f(self, places, more):", "    found = self.kept = []", "    longer = []",
                    f"    for x in {head}:", f"        {change}", "    found = longer")
            with self.subTest(head=head, change=change):
                self.assertEqual(rows_that_change_what_is_walked(ast.parse("\n".join(rows))), [5])

    def test_changes_of_other_lists_in_a_loop_may_stand(self):
        for head, change in (("list(found)", "longer.append(1)"), ("sorted(found)", "longer[0] = 1"),
                             ("list(found.items())", "del longer[0]"), ("places", "longer.append(1)"),
                             ("found", "longer = [1]"), ("found[0]", "found[1] = 1")):
            rows = ("def f(places):", "    found = []", "    longer = []",
                    f"    for x in {head}:", f"        {change}", "    found = longer")
            with self.subTest(head=head, change=change):
                self.assertEqual(rows_that_change_what_is_walked(ast.parse("\n".join(rows))), [])

    def test_sets_stand_where_they_may(self):
        for name, tree in trees():
            allowed = set()
            for node in ast.walk(tree):
                if isinstance(node, ast.Call) and isinstance(node.func, ast.Name) and node.func.id in ("sorted", "len"):
                    allowed.update(node.args)
            for node in ast.walk(tree):
                called = isinstance(node, ast.Call) and isinstance(node.func, ast.Name) and node.func.id == "set"
                if called or isinstance(node, (ast.Set, ast.SetComp)):
                    self.assertIn(node, allowed, f"{name}:{node.lineno}")


if __name__ == "__main__":
    unittest.main()
