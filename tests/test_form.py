"""The form of the package's code: those rules of LANGUAGE.md that can be seen in a file by itself."""

import ast
import builtins
import pathlib
import re
import unittest

PACKAGE = pathlib.Path(__file__).resolve().parent.parent / "smokestairs"
TEXTS = [path.read_text(encoding="utf-8") for path in sorted(PACKAGE.glob("*.py"))]
SOURCES = [(text, ast.parse(text)) for text in TEXTS]

NODES = set("""
    Module FunctionDef arguments arg ClassDef Return Assign AugAssign For While If Raise Try ExceptHandler
    ImportFrom alias Expr Pass Break Continue BoolOp And Or BinOp Add Sub Mult FloorDiv Mod Pow BitAnd BitOr BitXor
    LShift RShift UnaryOp Not USub UAdd Invert Lambda IfExp Dict Set List Tuple ListComp comprehension Compare Eq NotEq
    Lt LtE Gt GtE Is IsNot In NotIn Call keyword Constant Attribute Subscript Slice Name Load Store JoinedStr
    FormattedValue
""".split())
OWN_NAMES = set("""
    len range enumerate zip min max sum abs sorted reversed int str bool list tuple dict set frozenset isinstance ord
    repr any all divmod Exception ValueError TypeError KeyError IndexError LookupError ZeroDivisionError ArithmeticError
    OverflowError RuntimeError NotImplementedError AttributeError StopIteration
""".split())
UNUSED_NAMES = set("register mro elements open input version_info with_traceback add_note format format_map".split())
UNUSED_WORDS = ("type typing typing_extensions enum Enum IntEnum StrEnum Flag IntFlag Generic Protocol ABC ABCMeta "
                "namedtuple NamedTuple TypedDict TYPE_CHECKING abstractmethod").split()
DUNDERS = ("__init__", "__eq__", "__repr__", "__str__", "__len__")


def bound_names(tree):
    """Every name that the file binds, and every attribute that it gives or takes."""
    for node in ast.walk(tree):
        if isinstance(node, (ast.FunctionDef, ast.ClassDef)):
            yield node.name
        elif isinstance(node, ast.arg):
            yield node.arg
        elif isinstance(node, ast.Name):
            yield node.id
        elif isinstance(node, ast.Attribute):
            yield node.attr


class FormTest(unittest.TestCase):
    def test_files(self):
        names = [path.name for path in PACKAGE.iterdir() if path.name != "__pycache__"]
        self.assertIn("__init__.py", names)
        self.assertIn("house.py", names)
        for name in names:
            self.assertRegex(name, r"^(__init__|[a-z][a-z0-9_]*)\.py$")
            self.assertTrue(name == "__init__.py" or not hasattr(builtins, name[:-3]), name)

    def test_sizes_and_signs(self):
        for text, tree in SOURCES:
            lines = text.split("\n")
            self.assertLessEqual(len(lines), 400)
            self.assertLessEqual(max(len(line) for line in lines), 120)
            self.assertRegex(text, r"\A[ -~\n]*\Z")
            for node in ast.walk(tree):
                if isinstance(node, ast.FunctionDef):
                    self.assertLessEqual(node.end_lineno - node.lineno + 1, 40, node.name)

    def test_words(self):
        for text, tree in SOURCES:
            for word in UNUSED_WORDS:
                self.assertIsNone(re.search(rf"\b{word}\b", text), word)
            self.assertIsNone(re.search("dataclass|overload|contextmanager", text))

    def test_statements_and_expressions(self):
        for text, tree in SOURCES:
            for node in ast.walk(tree):
                self.assertIn(node.__class__.__name__, NODES, ast.dump(node))
                if isinstance(node, ast.Assign):
                    self.assertEqual(len(node.targets), 1)
                if isinstance(node, (ast.For, ast.While)):
                    self.assertEqual(node.orelse, [])
                if isinstance(node, ast.Constant):
                    self.assertIn(node.value.__class__, (int, str, bool, type(None)))
                if isinstance(node, ast.FormattedValue):
                    self.assertIsInstance(node.value, ast.Name)
                if isinstance(node, (ast.FunctionDef, ast.ClassDef)):
                    self.assertEqual(node.decorator_list, [])

    def test_expressions_by_themselves_are_calls(self):
        for text, tree in SOURCES:
            for node in ast.walk(tree):
                if isinstance(node, ast.Expr) and node is not tree.body[0]:
                    self.assertIsInstance(node.value, ast.Call)

    def test_top_of_a_module(self):
        for text, tree in SOURCES:
            self.assertIsNotNone(ast.get_docstring(tree))
            allowed = (ast.ImportFrom, ast.FunctionDef, ast.ClassDef, ast.Assign)
            for node in tree.body[1:]:
                self.assertIsInstance(node, allowed)

    def test_imports(self):
        for text, tree in SOURCES:
            for node in ast.walk(tree):
                if isinstance(node, ast.ImportFrom):
                    self.assertEqual(node.level, 0)
                    self.assertRegex(node.module, r"^smokestairs\.[a-z_]+$")
                    self.assertNotIn("*", [alias.name for alias in node.names])
                    self.assertIn(node, tree.body)

    def test_names(self):
        for text, tree in SOURCES:
            for name in bound_names(tree):
                self.assertTrue(name in DUNDERS or not name.startswith("_"), name)
                self.assertNotIn(name, UNUSED_NAMES)
            for node in ast.walk(tree):
                if isinstance(node, ast.Name) and hasattr(builtins, node.id):
                    self.assertIn(node.id, OWN_NAMES)
                    self.assertIsInstance(node.ctx, ast.Load, node.id)
                if isinstance(node, (ast.arg, ast.FunctionDef, ast.ClassDef)):
                    name = node.arg if isinstance(node, ast.arg) else node.name
                    self.assertTrue(name in DUNDERS or not hasattr(builtins, name), name)


if __name__ == "__main__":
    unittest.main()
