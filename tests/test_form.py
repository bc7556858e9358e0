"""The form of the package's code: those rules of LANGUAGE.md that can be seen in a file by itself."""

import ast
import builtins
import pathlib
import re
import unittest

PACKAGE = pathlib.Path(__file__).resolve().parent.parent / "smokestairs"
TEXTS = [path.read_text(encoding="utf-8") for path in sorted(PACKAGE.glob("*.py"))]
SOURCES = [(text, ast.parse(text)) for text in TEXTS]

NODES = set("""
    Module FunctionDef arguments arg ClassDef Return Assign AugAssign For While If Raise Try ExceptHandler
    ImportFrom alias Expr Pass Break Continue BoolOp And Or BinOp Add Sub Mult FloorDiv Mod Pow BitAnd BitOr BitXor
    LShift RShift UnaryOp Not USub UAdd Invert Lambda IfExp Dict Set List Tuple ListComp comprehension Compare Eq NotEq
    Lt LtE Gt GtE Is IsNot In NotIn Call keyword Constant Attribute Subscript Slice Name Load Store JoinedStr
    FormattedValue
""".split())
OWN_NAMES = set("""
    len range enumerate zip min max sum abs sorted reversed int str bool list tuple dict set frozenset isinstance ord
    repr any all divmod Exception ValueError TypeError KeyError IndexError LookupError ZeroDivisionError ArithmeticError
    OverflowError RuntimeError NotImplementedError AttributeError StopIteration
""".split())
UNUSED_NAMES = set("register mro elements open input version_info with_traceback add_note format format_map".split())
UNUSED_WORDS = ("type typing typing_extensions enum Enum IntEnum StrEnum Flag IntFlag Generic Protocol ABC ABCMeta "
                "namedtuple NamedTuple TypedDict TYPE_CHECKING abstractmethod").split()
METHODS = set("""
    append clear copy count endswith extend find get index insert isalnum isalpha isdigit islower isspace isupper items
    join keys ljust lower lstrip partition pop remove replace reverse rfind rjust rpartition rsplit rstrip setdefault
    split splitlines startswith strip update upper values zfill bit_length __init__
""".split())
KEYWORDS = {"sorted": ("key", "reverse"), "min": ("key", "default"), "max": ("key", "default"), "sum": ("start",),
            "enumerate": ("start",), "zip": ("strict",)}
WALKED = ("zip", "enumerate", "reversed", "range", "items", "keys", "values")
WALKERS = ("list", "tuple", "dict", "sorted", "sum", "any", "all", "enumerate", "zip", "min", "max")
DUNDERS = ("__init__", "__eq__", "__repr__", "__str__", "__len__")


def bound_names(tree):
    """Every name that the file binds, and every attribute that it gives or takes."""
    for node in ast.walk(tree):
        if isinstance(node, (ast.FunctionDef, ast.ClassDef)):
            yield node.name
        elif isinstance(node, ast.arg):
            yield node.arg
        elif isinstance(node, ast.Name):
            yield node.id
        elif isinstance(node, ast.Attribute):
            yield node.attr


def called_name(node):
    """How the function or method is called, None if the node is no call."""
    if not isinstance(node, ast.Call):
        return None
    return node.func.id if isinstance(node.func, ast.Name) else getattr(node.func, "attr", None)


def imports_of(tree):
    return [node for node in tree.body if isinstance(node, ast.ImportFrom)]


def taken_names(tree):
    """The classes and imports of the file, by whose names no parameter and no local goes."""
    names = [node.name for node in tree.body if isinstance(node, ast.ClassDef)]
    for node in imports_of(tree):
        names.extend(alias.name for alias in node.names)
    return names


def top_names(tree):
    names = taken_names(tree)
    names.extend(node.name for node in tree.body if isinstance(node, ast.FunctionDef))
    for node in tree.body:
        if isinstance(node, ast.Assign):
            names.append(node.targets[0].id)
    return names


def local_names(tree):
    for top in tree.body:
        if isinstance(top, (ast.FunctionDef, ast.ClassDef)):
            for node in ast.walk(top):
                if isinstance(node, ast.arg):
                    yield node.arg
                if isinstance(node, ast.Name) and isinstance(node.ctx, ast.Store):
                    yield node.id


def own_methods(tree):
    for node in ast.walk(tree):
        if isinstance(node, ast.ClassDef):
            for method in node.body:
                if isinstance(method, ast.FunctionDef) and method.name != "__init__":
                    yield method.name


class FormTest(unittest.TestCase):
    def test_files(self):
        names = [path.name for path in PACKAGE.iterdir() if path.name != "__pycache__"]
        self.assertIn("__init__.py", names)
        self.assertIn("house.py", names)
        for name in names:
            self.assertRegex(name, r"^(__init__|[a-z][a-z0-9_]*)\.py$")
            self.assertTrue(name == "__init__.py" or not hasattr(builtins, name[:-3]), name)

    def test_sizes_and_signs(self):
        for text, tree in SOURCES:
            lines = text.split("\n")
            self.assertLessEqual(len(lines), 400)
            self.assertLessEqual(max(len(line) for line in lines), 120)
            self.assertRegex(text, r"\A[ -~\n]*\Z")
            for node in ast.walk(tree):
                if isinstance(node, ast.FunctionDef):
                    self.assertLessEqual(node.end_lineno - node.lineno + 1, 40, node.name)

    def test_words(self):
        for text, tree in SOURCES:
            for word in UNUSED_WORDS:
                self.assertIsNone(re.search(rf"\b{word}\b", text), word)
            self.assertIsNone(re.search("dataclass|overload|contextmanager", text))

    def test_statements_and_expressions(self):
        for text, tree in SOURCES:
            for node in ast.walk(tree):
                self.assertIn(node.__class__.__name__, NODES, ast.dump(node))
                if isinstance(node, ast.Assign):
                    self.assertEqual(len(node.targets), 1)
                if isinstance(node, (ast.For, ast.While)):
                    self.assertEqual(node.orelse, [])
                if isinstance(node, ast.Constant):
                    self.assertIn(node.value.__class__, (int, str, bool, type(None)))
                if isinstance(node, ast.FormattedValue):
                    self.assertIsInstance(node.value, ast.Name)
                if isinstance(node, (ast.FunctionDef, ast.ClassDef)):
                    self.assertEqual(node.decorator_list, [])

    def test_expressions_by_themselves_are_calls(self):
        for text, tree in SOURCES:
            for node in ast.walk(tree):
                if isinstance(node, ast.Expr) and node is not tree.body[0]:
                    self.assertIsInstance(node.value, ast.Call)

    def test_top_of_a_module(self):
        for text, tree in SOURCES:
            self.assertIsNotNone(ast.get_docstring(tree))
            allowed = (ast.ImportFrom, ast.FunctionDef, ast.ClassDef, ast.Assign)
            for node in tree.body[1:]:
                self.assertIsInstance(node, allowed)

    def test_imports(self):
        for text, tree in SOURCES:
            for node in ast.walk(tree):
                if isinstance(node, ast.ImportFrom):
                    self.assertEqual(node.level, 0)
                    self.assertRegex(node.module, r"^smokestairs\.[a-z_]+$")
                    self.assertNotIn("*", [alias.name for alias in node.names])
                    self.assertIn(node, tree.body)

    def test_names(self):
        for text, tree in SOURCES:
            for name in bound_names(tree):
                self.assertTrue(name in DUNDERS or not name.startswith("_"), name)
                self.assertNotIn(name, UNUSED_NAMES)
            for node in ast.walk(tree):
                if isinstance(node, ast.Name) and hasattr(builtins, node.id):
                    self.assertIn(node.id, OWN_NAMES)
                    self.assertIsInstance(node.ctx, ast.Load, node.id)
                if isinstance(node, (ast.arg, ast.FunctionDef, ast.ClassDef)):
                    name = node.arg if isinstance(node, ast.arg) else node.name
                    self.assertTrue(name in DUNDERS or not hasattr(builtins, name), name)

    def test_each_name_once(self):
        for text, tree in SOURCES:
            names = top_names(tree)
            self.assertEqual(sorted(names), sorted(set(names)))
            for name in local_names(tree):
                self.assertNotIn(name, taken_names(tree))

    def test_lists_and_dicts_of_a_file(self):
        # Tuples alone stand at a file's top, so that nothing there can be changed.
        for text, tree in SOURCES:
            for top in tree.body:
                if isinstance(top, ast.Assign):
                    for node in ast.walk(top.value):
                        self.assertNotIsInstance(node, (ast.List, ast.Dict, ast.Call, ast.ListComp))

    def test_no_two_files_draw_from_one_another(self):
        drawn = {}
        for path, (text, tree) in zip(sorted(PACKAGE.glob("*.py")), SOURCES):
            drawn["smokestairs." + path.stem] = {node.module for node in imports_of(tree)}
        while drawn:
            ready = [name for name, others in drawn.items() if not others & set(drawn)]
            self.assertNotEqual(ready, [], drawn)
            for name in ready:
                del drawn[name]

    def test_imports_come_from_the_file_that_defines_the_name(self):
        trees = {path.stem: tree for path, (text, tree) in zip(sorted(PACKAGE.glob("*.py")), SOURCES)}
        for text, tree in SOURCES:
            for node in imports_of(tree):
                source = trees[node.module.split(".")[1]]
                for alias in node.names:
                    self.assertIsNone(alias.asname)
                    self.assertIn(alias.name, top_names(source))
                    self.assertNotIn(alias.name, [name.name for line in imports_of(source) for name in line.names])

    def test_methods(self):
        own = {name for text, tree in SOURCES for name in own_methods(tree)}
        called = set()
        other = set()
        for text, tree in SOURCES:
            methods = [node.func for node in ast.walk(tree)
                       if isinstance(node, ast.Call) and isinstance(node.func, ast.Attribute)]
            called.update(node.attr for node in methods)
            other.update(node.attr for node in ast.walk(tree)
                         if isinstance(node, ast.Attribute) and node not in methods)
        self.assertEqual(called - own - METHODS, set())
        # No name is a method in one class and a value in another.
        self.assertEqual(other & (own | METHODS), set())

    def test_is_and_texts(self):
        for text, tree in SOURCES:
            for node in ast.walk(tree):
                if isinstance(node, ast.Compare) and isinstance(node.ops[0], (ast.Is, ast.IsNot)):
                    self.assertIsInstance(node.comparators[0], ast.Constant)
                    self.assertIn(node.comparators[0].value, (None, True, False))
                if isinstance(node, ast.Constant) and isinstance(node.value, str):
                    self.assertNotIn("%", node.value)

    def test_keywords_and_errors(self):
        for text, tree in SOURCES:
            for node in ast.walk(tree):
                if isinstance(node, ast.Call):
                    for keyword in node.keywords:
                        self.assertIn(keyword.arg, KEYWORDS.get(called_name(node), ()))
                if isinstance(node, ast.ExceptHandler):
                    self.assertIsInstance(node.type, ast.Name)
                    self.assertIn(node.type.id, taken_names(tree))

    def test_walked_at_once(self):
        for text, tree in SOURCES:
            walked = []
            for node in ast.walk(tree):
                if isinstance(node, (ast.For, ast.comprehension)):
                    walked.append(node.iter)
                if called_name(node) in WALKERS:
                    walked.extend(node.args)
            for node in ast.walk(tree):
                if called_name(node) in WALKED:
                    self.assertIn(node, walked, ast.dump(node))

    def test_no_set_is_kept(self):
        for text, tree in SOURCES:
            for node in ast.walk(tree):
                self.assertNotIsInstance(node, ast.Set)
                self.assertNotIn(called_name(node), ("set", "frozenset"))


if __name__ == "__main__":
    unittest.main()
