"""Tests of those rules of LANGUAGE.md that a look at each file alone can decide. They do not replace reading it."""

import ast
import builtins
import io
import re
import tokenize
import unittest
from pathlib import Path

PACKAGE = Path(__file__).resolve().parent.parent / "seriesforms"

LIBRARY = {
    "heapq": {"heappush", "heappop", "heapify", "heapreplace", "heappushpop"},
    "math": {"gcd", "lcm", "isqrt", "comb", "perm", "factorial"},
    "itertools": {"product", "combinations", "permutations"},
}
BUILTINS = set(
    "len range enumerate zip min max sum abs sorted reversed int str bool bytes list tuple dict set frozenset isinstance"
    " ord repr any all divmod iter next map super property classmethod staticmethod object float"
    " Exception ValueError TypeError KeyError IndexError LookupError ZeroDivisionError ArithmeticError OverflowError"
    " RuntimeError NotImplementedError AttributeError StopIteration NotImplemented".split()
)
DUNDERS = {
    f"__{name}__"
    for name in "init eq repr str len enter exit call iter lt le gt ge ne add sub mul floordiv mod pow and or xor lshift"
    " rshift radd rsub rmul rfloordiv rmod rand ror rxor rlshift rrshift iadd isub imul ifloordiv imod ipow iand ior"
    " ixor ilshift irshift neg pos invert abs bool contains getitem setitem".split()
}
DECORATORS = {"property", "classmethod", "staticmethod"}
CAUGHT_NEVER = {
    "Exception", "TypeError", "ArithmeticError", "OverflowError", "RuntimeError", "NotImplementedError",
    "AttributeError",
}
WORDS = (
    "type typing typing_extensions enum Enum IntEnum StrEnum Flag IntFlag Generic Protocol ABC ABCMeta namedtuple"
    " NamedTuple TypedDict TYPE_CHECKING abstractmethod register mro elements open input law version_info"
    " with_traceback add_note breakpoint compile delattr dir eval exec exit getattr globals hasattr help id locals"
    " os quit setattr type vars sys".split()
)


def files():
    return sorted(path for path in PACKAGE.rglob("*") if "__pycache__" not in path.parts and path.is_file())


def tree(path):
    return ast.parse(path.read_text(encoding="utf-8"))


def functions(root):
    return [node for node in ast.walk(root) if isinstance(node, ast.FunctionDef)]


def bound_names(root):
    """All names that a file gives to variables, parameters, functions, classes and caught errors."""
    for node in ast.walk(root):
        if isinstance(node, ast.Name) and isinstance(node.ctx, ast.Store):
            yield node.id
        elif isinstance(node, ast.arg):
            yield node.arg
        elif isinstance(node, ast.ClassDef):
            yield node.name
        elif isinstance(node, ast.ExceptHandler) and node.name:
            yield node.name
    methods = {id(item) for node in ast.walk(root) if isinstance(node, ast.ClassDef) for item in node.body}
    for node in functions(root):
        if id(node) not in methods:
            yield node.name


class LanguageTest(unittest.TestCase):
    def test_files(self):
        self.assertIn(PACKAGE / "__init__.py", files())
        for path in files():
            with self.subTest(file=path.name):
                self.assertRegex(path.name, r"^[a-z_][a-z0-9_]*\.py$")

    def test_characters_and_lines(self):
        for path in files():
            with self.subTest(file=path.name):
                text = path.read_bytes().decode("utf-8")
                self.assertEqual(re.findall(r"[^ -~\n]", text), [])
                lines = text.splitlines()
                self.assertLessEqual(len(lines), 399)
                self.assertEqual([line for line in lines if len(line) > 120], [])

    def test_length_of_functions(self):
        for path in files():
            with self.subTest(file=path.name):
                long = [node.name for node in functions(tree(path)) if node.end_lineno - node.lineno + 1 > 40]
                self.assertEqual(long, [])

    def test_imports(self):
        for path in files():
            with self.subTest(file=path.name):
                for node in ast.walk(tree(path)):
                    self.assertNotIsInstance(node, ast.Import)
                    if isinstance(node, ast.ImportFrom):
                        names = {alias.name for alias in node.names}
                        self.assertEqual(node.level, 0)
                        if node.module in LIBRARY:
                            self.assertLessEqual(names, LIBRARY[node.module])
                            self.assertEqual([alias.asname for alias in node.names if alias.asname], [])
                        else:
                            self.assertTrue(node.module.startswith("seriesforms."))
                            self.assertNotIn("*", names)

    def test_module_level(self):
        kinds = (ast.Expr, ast.ImportFrom, ast.FunctionDef, ast.ClassDef, ast.Assign)
        for path in files():
            with self.subTest(file=path.name):
                for place, node in enumerate(tree(path).body):
                    self.assertIsInstance(node, kinds)
                    if isinstance(node, ast.Expr):
                        self.assertEqual(place, 0)

    def test_kinds_of_rows(self):
        barred = (ast.Global, ast.AsyncFunctionDef, ast.Await, ast.Div, ast.MatMult)
        for path in files():
            with self.subTest(file=path.name):
                for node in ast.walk(tree(path)):
                    self.assertNotIsInstance(node, barred)
                    if isinstance(node, ast.Constant):
                        self.assertNotIsInstance(node.value, (float, complex))
                    if isinstance(node, ast.ExceptHandler):
                        self.assertIsNotNone(node.type)
                        caught = {name.id for name in ast.walk(node.type) if isinstance(name, ast.Name)}
                        self.assertEqual(caught & CAUGHT_NEVER, set())

    def test_methods_and_decorators(self):
        for path in files():
            with self.subTest(file=path.name):
                for node in functions(tree(path)):
                    if node.name.startswith("__"):
                        self.assertIn(node.name, DUNDERS)
                    names = {ast.unparse(mark) for mark in node.decorator_list}
                    self.assertEqual({name for name in names - DECORATORS if not name.endswith(".setter")}, set())
                for node in ast.walk(tree(path)):
                    if isinstance(node, ast.ClassDef):
                        self.assertEqual(node.decorator_list, [])

    def test_builtins(self):
        known = set(dir(builtins))
        for path in files():
            with self.subTest(file=path.name):
                root = tree(path)
                read = {node.id for node in ast.walk(root) if isinstance(node, ast.Name)}
                self.assertEqual((read & known) - BUILTINS, set())
                self.assertEqual(set(bound_names(root)) & known, set())

    def test_words(self):
        for path in files():
            with self.subTest(file=path.name):
                for token in tokenize.generate_tokens(io.StringIO(path.read_text(encoding="utf-8")).readline):
                    if token.type == tokenize.NAME:
                        self.assertNotIn(token.string, WORDS)

    def test_strings(self):
        for path in files():
            with self.subTest(file=path.name):
                for node in ast.walk(tree(path)):
                    if isinstance(node, ast.Constant) and isinstance(node.value, str):
                        self.assertNotIn("%", node.value)


if __name__ == "__main__":
    unittest.main()
