"""The rules of the program's language that a look at its files can tell."""

import ast
import builtins
import pathlib
import re
import unittest

PACKAGE = pathlib.Path(__file__).resolve().parent.parent / "manrent"
FILES = sorted(PACKAGE.rglob("*.py"))

ALLOWED_NAMES = set("""
len range enumerate zip min max sum abs sorted reversed int str bool bytes list tuple dict set frozenset isinstance
ord repr any all divmod Exception ValueError TypeError KeyError IndexError LookupError ZeroDivisionError
ArithmeticError OverflowError RuntimeError NotImplementedError AttributeError StopIteration
""".split())
FORBIDDEN_NODES = (
    ast.With, ast.AsyncWith, ast.AsyncFor, ast.AsyncFunctionDef, ast.Await, ast.Global, ast.Nonlocal, ast.Yield,
    ast.YieldFrom, ast.Match, ast.GeneratorExp, ast.NamedExpr, ast.Div, ast.MatMult, ast.Import,
)
FORBIDDEN_WORDS = set("""
type typing typing_extensions enum Enum IntEnum StrEnum Flag IntFlag Generic Protocol ABC ABCMeta namedtuple
NamedTuple TypedDict TYPE_CHECKING abstractmethod
""".split())
METHODS = {"__init__", "__eq__", "__repr__", "__str__", "__len__"}


def trees():
    for path in FILES:
        yield path.name, ast.parse(path.read_text(encoding="ascii"))


def nodes(kinds):
    for name, tree in trees():
        for node in ast.walk(tree):
            if isinstance(node, kinds):
                yield f"{name}:{getattr(node, 'lineno', 0)}", node


class Language(unittest.TestCase):
    def test_there_are_files(self):
        self.assertIn(PACKAGE / "__init__.py", FILES)

    def test_signs_and_sizes(self):
        for path in FILES:
            text = path.read_text(encoding="ascii")
            with self.subTest(path=path.name):
                self.assertIsNotNone(re.fullmatch(r"[ -~\n]*", text))
                self.assertLessEqual(len(text.splitlines()), 400)
                self.assertLessEqual(max(len(line) for line in text.splitlines()), 120)
                self.assertIsNotNone(re.fullmatch(r"[a-z][a-z0-9_]*|__init__|__main__", path.stem))

    def test_words(self):
        for path in FILES:
            with self.subTest(path=path.name):
                words = set(re.findall(r"\w+", path.read_text(encoding="ascii")))
                self.assertEqual(words & FORBIDDEN_WORDS, set())

    def test_functions(self):
        for place, node in nodes(ast.FunctionDef):
            with self.subTest(place=place):
                self.assertLessEqual(node.end_lineno - node.lineno + 1, 40)
                self.assertEqual(node.decorator_list, [])
                self.assertIsNone(node.args.vararg)
                self.assertIsNone(node.args.kwarg)
                self.assertEqual(node.args.posonlyargs, [])
                self.assertTrue(node.name in METHODS or not node.name.startswith("_"))

    def test_forms_that_are_out(self):
        for place, node in nodes(FORBIDDEN_NODES):
            self.fail(f"{place}: {type(node).__name__}")

    def test_constants(self):
        for place, node in nodes(ast.Constant):
            with self.subTest(place=place):
                self.assertNotIsInstance(node.value, (float, complex))
                if isinstance(node.value, str):
                    self.assertNotIn("%", node.value)

    def test_imports(self):
        for place, node in nodes(ast.ImportFrom):
            with self.subTest(place=place):
                self.assertEqual(node.level, 0)
                self.assertTrue(node.module == "__future__" or node.module.startswith("manrent."))
                self.assertNotIn("*", [alias.name for alias in node.names])

    def test_names(self):
        for place, node in nodes(ast.Name):
            with self.subTest(place=place, name=node.id):
                self.assertFalse(node.id.startswith("_"))
                if hasattr(builtins, node.id):
                    self.assertIn(node.id, ALLOWED_NAMES)
                    self.assertIsInstance(node.ctx, ast.Load)

    def test_parameters(self):
        for place, node in nodes(ast.arg):
            with self.subTest(place=place, name=node.arg):
                self.assertFalse(node.arg.startswith("_"))
                self.assertFalse(hasattr(builtins, node.arg))


if __name__ == "__main__":
    unittest.main()
