"""The rules of the program's language that a look at its files can tell."""

import ast
import builtins
import pathlib
import re
import unittest

PACKAGE = pathlib.Path(__file__).resolve().parent.parent / "manrent"
FILES = sorted(PACKAGE.rglob("*.py"))

ALLOWED_NAMES = set("""
len range enumerate zip min max sum abs sorted reversed int str bool bytes list tuple dict set frozenset isinstance
ord repr any all divmod Exception ValueError TypeError KeyError IndexError LookupError ZeroDivisionError
ArithmeticError OverflowError RuntimeError NotImplementedError AttributeError StopIteration
""".split())
FORBIDDEN_NODES = (
    ast.With, ast.AsyncWith, ast.AsyncFor, ast.AsyncFunctionDef, ast.Await, ast.Global, ast.Nonlocal, ast.Yield,
    ast.YieldFrom, ast.Match, ast.GeneratorExp, ast.NamedExpr, ast.Div, ast.MatMult, ast.Import,
)
FORBIDDEN_WORDS = set("""
type typing typing_extensions enum Enum IntEnum StrEnum Flag IntFlag Generic Protocol ABC ABCMeta namedtuple
NamedTuple TypedDict TYPE_CHECKING abstractmethod
""".split())
OWN_KINDS = (str, int, list, dict, set, bytes, tuple)
METHODS_LIKE_PYTHONS_OWN = set("""
append clear copy count endswith extend find get index insert isalnum isalpha isdigit islower isspace isupper items
join keys ljust lower lstrip partition pop remove replace reverse rfind rjust rpartition rsplit rstrip setdefault
split splitlines startswith strip update upper values zfill bit_length add discard
""".split())
VALUES_LIKE_PYTHONS_OWN = set("count index title find get join lower upper split strip copy add".split())
METHODS = {"__init__", "__eq__", "__repr__", "__str__", "__len__"}


def trees():
    for path in FILES:
        yield path.name, ast.parse(path.read_text(encoding="ascii"))


def nodes(kinds):
    for name, tree in trees():
        for node in ast.walk(tree):
            if isinstance(node, kinds):
                yield f"{name}:{getattr(node, 'lineno', 0)}", node


class Language(unittest.TestCase):
    def test_there_are_files(self):
        self.assertIn(PACKAGE / "__init__.py", FILES)

    def test_signs_and_sizes(self):
        for path in FILES:
            text = path.read_text(encoding="ascii")
            with self.subTest(path=path.name):
                self.assertIsNotNone(re.fullmatch(r"[ -~\n]*", text))
                self.assertLessEqual(len(text.splitlines()), 400)
                self.assertLessEqual(max(len(line) for line in text.splitlines()), 120)
                self.assertIsNotNone(re.fullmatch(r"[a-z][a-z0-9_]*|__init__|__main__", path.stem))

    def test_words(self):
        for path in FILES:
            with self.subTest(path=path.name):
                words = set(re.findall(r"\w+", path.read_text(encoding="ascii")))
                self.assertEqual(words & FORBIDDEN_WORDS, set())

    def test_functions(self):
        for place, node in nodes(ast.FunctionDef):
            with self.subTest(place=place):
                self.assertLessEqual(node.end_lineno - node.lineno + 1, 40)
                self.assertEqual(node.decorator_list, [])
                self.assertIsNone(node.args.vararg)
                self.assertIsNone(node.args.kwarg)
                self.assertEqual(node.args.posonlyargs, [])
                self.assertTrue(node.name in METHODS or not node.name.startswith("_"))

    def test_forms_that_are_out(self):
        for place, node in nodes(FORBIDDEN_NODES):
            self.fail(f"{place}: {type(node).__name__}")

    def test_constants(self):
        for place, node in nodes(ast.Constant):
            with self.subTest(place=place):
                self.assertNotIsInstance(node.value, (float, complex))
                if isinstance(node.value, str):
                    self.assertNotIn("%", node.value)

    def test_imports(self):
        for place, node in nodes(ast.ImportFrom):
            with self.subTest(place=place):
                self.assertEqual(node.level, 0)
                self.assertTrue(node.module == "__future__" or node.module.startswith("manrent."))
                self.assertNotIn("*", [alias.name for alias in node.names])

    def test_names(self):
        for place, node in nodes(ast.Name):
            with self.subTest(place=place, name=node.id):
                self.assertFalse(node.id.startswith("_"))
                if hasattr(builtins, node.id):
                    self.assertIn(node.id, ALLOWED_NAMES)
                    self.assertIsInstance(node.ctx, ast.Load)

    def test_parameters(self):
        for place, node in nodes(ast.arg):
            with self.subTest(place=place, name=node.arg):
                self.assertFalse(node.arg.startswith("_"))
                self.assertFalse(hasattr(builtins, node.arg))


    def test_methods_and_values(self):
        methods, values = set(), set()
        for place, node in nodes(ast.ClassDef):
            with self.subTest(place=place):
                names = [one.name for one in node.body if isinstance(one, ast.FunctionDef)]
                self.assertEqual(len(names), len(set(names)))
                self.assertLessEqual({type(one) for one in node.body[1:]}, {ast.FunctionDef})
                self.assertLessEqual(len(node.bases), 1)
                methods |= set(names) - METHODS
        for place, node in nodes(ast.Attribute):
            if isinstance(node.ctx, ast.Store):
                values.add(node.attr)
        self.assertEqual(methods & values, set())
        own = {name for kind in OWN_KINDS for name in dir(kind)}
        self.assertLessEqual(methods & own, METHODS_LIKE_PYTHONS_OWN)
        self.assertLessEqual(values & own, VALUES_LIKE_PYTHONS_OWN)

    def test_no_two_files_draw_from_one_another(self):
        drawn = {name: [node.module.split(".")[-1] + ".py" for node in ast.walk(tree)
                        if isinstance(node, ast.ImportFrom)] for name, tree in trees()}
        while drawn:
            free = [name for name in drawn if not set(drawn[name]) & set(drawn)]
            self.assertNotEqual(free, [], sorted(drawn))
            for name in free:
                del drawn[name]

    def test_names_of_a_top_are_given_once(self):
        for name, tree in trees():
            given = []
            for node in tree.body:
                if isinstance(node, ast.ImportFrom):
                    given += [alias.asname or alias.name for alias in node.names]
                elif isinstance(node, ast.Assign):
                    given += [target.id for target in node.targets]
                elif isinstance(node, (ast.FunctionDef, ast.ClassDef)):
                    given.append(node.name)
                else:
                    self.assertIsInstance(node, ast.Expr)
            with self.subTest(name=name):
                self.assertEqual(len(given), len(set(given)))
                taken = {alias.asname or alias.name for node in tree.body if isinstance(node, ast.ImportFrom)
                         for alias in node.names}
                taken |= {node.name for node in tree.body if isinstance(node, ast.ClassDef)}
                inner = {node.arg for node in ast.walk(tree) if isinstance(node, ast.arg)}
                inner |= {node.id for node in ast.walk(tree)
                          if isinstance(node, ast.Name) and isinstance(node.ctx, ast.Store)}
                self.assertEqual(inner & taken, set())

    def test_is_stands_beside_written_words_alone(self):
        for place, node in nodes(ast.Compare):
            for sign, right in zip(node.ops, node.comparators):
                if isinstance(sign, (ast.Is, ast.IsNot)):
                    with self.subTest(place=place):
                        self.assertIn(getattr(right, "value", "none"), (None, True, False))


if __name__ == "__main__":
    unittest.main()
