"""Tests of those rules of LANGUAGE.md that a look at each file alone can decide. They do not replace reading it."""

import ast
import builtins
import io
import re
import tokenize
import unittest
from pathlib import Path

PACKAGE = Path(__file__).resolve().parent.parent / "seriesforms"

LIBRARY = {
    "heapq": {"heappush", "heappop", "heapify", "heapreplace", "heappushpop"},
    "math": {"gcd", "lcm", "isqrt", "comb", "perm", "factorial"},
    "itertools": {"product", "combinations", "permutations"},
}
BUILTINS = set(
    "len range enumerate zip min max sum abs sorted reversed int str bool bytes list tuple dict set frozenset isinstance"
    " ord repr any all divmod iter next map super property classmethod staticmethod object float"
    " Exception ValueError TypeError KeyError IndexError LookupError ZeroDivisionError ArithmeticError OverflowError"
    " RuntimeError NotImplementedError AttributeError StopIteration NotImplemented".split()
)
DUNDERS = {
    f"__{name}__"
    for name in "init eq repr str len enter exit call iter lt le gt ge ne add sub mul floordiv mod pow and or xor lshift"
    " rshift radd rsub rmul rfloordiv rmod rand ror rxor rlshift rrshift iadd isub imul ifloordiv imod ipow iand ior"
    " ixor ilshift irshift neg pos invert abs bool contains getitem setitem".split()
}
DECORATORS = {"property", "classmethod", "staticmethod"}
CAUGHT_NEVER = {
    "Exception", "TypeError", "ArithmeticError", "OverflowError", "RuntimeError", "NotImplementedError",
    "AttributeError",
}
WORDS = (
    "type typing typing_extensions enum Enum IntEnum StrEnum Flag IntFlag Generic Protocol ABC ABCMeta namedtuple"
    " NamedTuple TypedDict TYPE_CHECKING abstractmethod register mro elements open input law version_info"
    " with_traceback add_note breakpoint compile delattr dir eval exec exit getattr globals hasattr help id locals"
    " os quit setattr type vars sys".split()
)


def files():
    return sorted(path for path in PACKAGE.rglob("*") if "__pycache__" not in path.parts and path.is_file())


def tree(path):
    return ast.parse(path.read_text(encoding="utf-8"))


def functions(root):
    return [node for node in ast.walk(root) if isinstance(node, ast.FunctionDef)]


def bound_names(root):
    """All names that a file gives to variables, parameters, functions, classes and caught errors."""
    for node in ast.walk(root):
        if isinstance(node, ast.Name) and isinstance(node.ctx, ast.Store):
            yield node.id
        elif isinstance(node, ast.arg):
            yield node.arg
        elif isinstance(node, ast.ClassDef):
            yield node.name
        elif isinstance(node, ast.ExceptHandler) and node.name:
            yield node.name
    methods = {id(item) for node in ast.walk(root) if isinstance(node, ast.ClassDef) for item in node.body}
    for node in functions(root):
        if id(node) not in methods:
            yield node.name


class LanguageTest(unittest.TestCase):
    def test_files(self):
        self.assertIn(PACKAGE / "__init__.py", files())
        for path in files():
            with self.subTest(file=path.name):
                self.assertRegex(path.name, r"^[a-z_][a-z0-9_]*\.py$")

    def test_characters_and_lines(self):
        for path in files():
            with self.subTest(file=path.name):
                text = path.read_bytes().decode("utf-8")
                self.assertEqual(re.findall(r"[^ -~\n]", text), [])
                lines = text.splitlines()
                self.assertLessEqual(len(lines), 399)
                self.assertEqual([line for line in lines if len(line) > 120], [])

    def test_length_of_functions(self):
        for path in files():
            with self.subTest(file=path.name):
                long = [node.name for node in functions(tree(path)) if node.end_lineno - node.lineno + 1 > 40]
                self.assertEqual(long, [])

    def test_imports(self):
        for path in files():
            with self.subTest(file=path.name):
                for node in ast.walk(tree(path)):
                    self.assertNotIsInstance(node, ast.Import)
                    if isinstance(node, ast.ImportFrom):
                        names = {alias.name for alias in node.names}
                        self.assertEqual(node.level, 0)
                        if node.module in LIBRARY:
                            self.assertLessEqual(names, LIBRARY[node.module])
                            self.assertEqual([alias.asname for alias in node.names if alias.asname], [])
                        else:
                            self.assertTrue(node.module.startswith("seriesforms."))
                            self.assertNotIn("*", names)

    def test_module_level(self):
        kinds = (ast.Expr, ast.ImportFrom, ast.FunctionDef, ast.ClassDef, ast.Assign)
        for path in files():
            with self.subTest(file=path.name):
                for place, node in enumerate(tree(path).body):
                    self.assertIsInstance(node, kinds)
                    if isinstance(node, ast.Expr):
                        self.assertEqual(place, 0)

    def test_kinds_of_rows(self):
        barred = (ast.Global, ast.AsyncFunctionDef, ast.Await, ast.Div, ast.MatMult)
        for path in files():
            with self.subTest(file=path.name):
                for node in ast.walk(tree(path)):
                    self.assertNotIsInstance(node, barred)
                    if isinstance(node, ast.Constant):
                        self.assertNotIsInstance(node.value, (float, complex))
                    if isinstance(node, ast.ExceptHandler):
                        self.assertIsNotNone(node.type)
                        caught = {name.id for name in ast.walk(node.type) if isinstance(name, ast.Name)}
                        self.assertEqual(caught & CAUGHT_NEVER, set())

    def test_methods_and_decorators(self):
        for path in files():
            with self.subTest(file=path.name):
                for node in functions(tree(path)):
                    if node.name.startswith("__"):
                        self.assertIn(node.name, DUNDERS)
                    names = {ast.unparse(mark) for mark in node.decorator_list}
                    self.assertEqual({name for name in names - DECORATORS if not name.endswith(".setter")}, set())
                for node in ast.walk(tree(path)):
                    if isinstance(node, ast.ClassDef):
                        self.assertEqual(node.decorator_list, [])

    def test_builtins(self):
        known = set(dir(builtins)) - {"_"}
        for path in files():
            with self.subTest(file=path.name):
                root = tree(path)
                read = {node.id for node in ast.walk(root) if isinstance(node, ast.Name)}
                self.assertEqual((read & known) - BUILTINS, set())
                self.assertEqual(set(bound_names(root)) & known, set())

    def test_words(self):
        for path in files():
            with self.subTest(file=path.name):
                for token in tokenize.generate_tokens(io.StringIO(path.read_text(encoding="utf-8")).readline):
                    if token.type == tokenize.NAME:
                        self.assertNotIn(token.string, WORDS)

    def test_strings(self):
        for path in files():
            with self.subTest(file=path.name):
                for node in ast.walk(tree(path)):
                    if isinstance(node, ast.Constant) and isinstance(node.value, str):
                        self.assertNotIn("%", node.value)


BUILTIN_METHODS = {name for kind in (str, int, list, dict, set, bytes, tuple) for name in dir(kind) if name[0] != "_"}
BARRED_ATTRIBUTES = set(
    "items keys values pop update append clear extend insert remove reverse setdefault sort args encode decode hex fromhex"
    " format format_map mro".split()
)
TAKING_LISTS = {"any", "all", "min", "max", "sum", "sorted"}


class Members:
    """The names of the methods, properties and attributes of all classes of the package."""

    def __init__(self):
        self.plain, self.static, self.properties, self.setters, self.attributes = {}, {}, {}, {}, {}
        for path in files():
            for node in ast.walk(tree(path)):
                if isinstance(node, ast.ClassDef):
                    for item in node.body:
                        if isinstance(item, ast.FunctionDef):
                            self._add(node.name, item)

    def _add(self, owner, method):
        marks = [ast.unparse(mark) for mark in method.decorator_list]
        kinds = {"property": self.properties, "classmethod": self.static, "staticmethod": self.static}
        table = kinds.get(marks[0], self.setters) if marks else self.plain
        table.setdefault(method.name, set()).add(owner)
        for node in ast.walk(method):
            if isinstance(node, ast.Attribute) and isinstance(node.ctx, ast.Store):
                self.attributes.setdefault(node.attr, set()).add(owner)


class MembersTest(unittest.TestCase):
    def setUp(self):
        self.members = Members()

    def test_properties(self):
        members = self.members
        others = set(members.plain) | set(members.static) | BUILTIN_METHODS
        self.assertEqual(set(members.properties) & others, set())
        for name in set(members.properties) & set(members.attributes):
            with self.subTest(name=name):
                self.assertEqual(members.properties[name], members.setters.get(name))

    def test_static_and_class_methods(self):
        members = self.members
        others = set(members.plain) | set(members.properties) | set(members.attributes) | BUILTIN_METHODS
        self.assertEqual(set(members.static) & others, set())

    def test_methods_and_attributes(self):
        members = self.members
        self.assertEqual(set(members.plain) & set(members.attributes), set())
        self.assertEqual({name for name in members.attributes if name in BARRED_ATTRIBUTES or name[:2] == "__"}, set())

    def test_attributes_that_are_read_are_set(self):
        members = self.members
        known = set(members.plain) | set(members.static) | set(members.properties) | set(members.attributes) | BUILTIN_METHODS
        for path in files():
            for node in ast.walk(tree(path)):
                if isinstance(node, ast.Attribute) and not node.attr.startswith("__") and node.attr != "setter":
                    self.assertIn(node.attr, known)


class NamesTest(unittest.TestCase):
    def test_one_binding(self):
        """No local name is that of a class or an import of its file; module-level names are bound once."""
        for path in files():
            with self.subTest(file=path.name):
                root = tree(path)
                tops = []
                for node in root.body:
                    if isinstance(node, ast.ImportFrom):
                        tops += [alias.asname or alias.name for alias in node.names]
                    elif isinstance(node, (ast.ClassDef, ast.FunctionDef)):
                        tops.append(node.name)
                    elif isinstance(node, ast.Assign):
                        tops += [target.id for target in node.targets]
                self.assertEqual(len(tops), len(set(tops)))
                imports = {alias.name for node in root.body if isinstance(node, ast.ImportFrom) for alias in node.names}
                classes = {node.name for node in root.body if isinstance(node, ast.ClassDef)}
                local = set()
                for node in ast.walk(root):
                    if isinstance(node, ast.Name) and isinstance(node.ctx, ast.Store):
                        local.add(node.id)
                    elif isinstance(node, ast.arg):
                        local.add(node.arg)
                self.assertEqual(local & (imports | classes), set())

    def test_no_circles_of_imports(self):
        needs = {}
        for path in files():
            modules = [node.module for node in ast.walk(tree(path)) if isinstance(node, ast.ImportFrom)]
            needs[f"seriesforms.{path.stem}"] = {module for module in modules if module.startswith("seriesforms.")}
        while needs:
            free = [name for name, wanted in needs.items() if not wanted & set(needs)]
            self.assertNotEqual(free, [])
            for name in free:
                del needs[name]

    def test_imported_names_are_used_and_defined_there(self):
        for path in files():
            root = tree(path)
            read = {node.id for node in ast.walk(root) if isinstance(node, ast.Name)}
            for node in ast.walk(root):
                if isinstance(node, ast.ImportFrom) and node.module.startswith("seriesforms."):
                    with self.subTest(file=path.name, module=node.module):
                        names = {alias.name for alias in node.names}
                        self.assertLessEqual(names, read)
                        source = tree(PACKAGE / f"{node.module.partition('.')[2]}.py")
                        defined = {item.name for item in source.body if isinstance(item, (ast.ClassDef, ast.FunctionDef))}
                        for item in source.body:
                            if isinstance(item, ast.Assign):
                                defined |= {target.id for target in item.targets}
                        self.assertLessEqual(names, defined)


class ValuesTest(unittest.TestCase):
    def test_generators_and_powers(self):
        for path in files():
            with self.subTest(file=path.name):
                for node in ast.walk(tree(path)):
                    if isinstance(node, ast.Call) and isinstance(node.func, ast.Name) and node.func.id in TAKING_LISTS:
                        self.assertEqual([arg for arg in node.args if isinstance(arg, ast.GeneratorExp)], [])
                    if isinstance(node, ast.BinOp) and isinstance(node.op, ast.Pow):
                        self.assertIsInstance(node.right, ast.Constant)
                    self.assertNotIsInstance(node, (ast.Set, ast.SetComp, ast.Yield, ast.Lambda, ast.NamedExpr))

    def test_default_values(self):
        for path in files():
            with self.subTest(file=path.name):
                for node in functions(tree(path)):
                    for default in node.args.defaults:
                        ast.literal_eval(default)

    def test_catching(self):
        """Only errors of the package are caught."""
        own = {node.name for node in ast.walk(tree(PACKAGE / "errors.py")) if isinstance(node, ast.ClassDef)}
        for path in files():
            for node in ast.walk(tree(path)):
                if isinstance(node, ast.ExceptHandler):
                    caught = {name.id for name in ast.walk(node.type) if isinstance(name, ast.Name)}
                    self.assertLessEqual(caught, own)


# Double-underscore methods that may alter something.
ALTERING = {"__init__", "__call__", "__enter__", "__exit__", "__setitem__", "__iter__"}
ALTERING_CALLS = set("append clear extend insert pop remove reverse setdefault update sort add discard".split())


class Calls:
    """Which functions and methods are called by which, by their names alone, over the whole package."""

    def __init__(self):
        self.named, self.classes = {}, {}
        self.quiet = []
        for path in files():
            for node in tree(path).body:
                if isinstance(node, ast.FunctionDef):
                    self.named.setdefault(node.name, []).append(node)
                elif isinstance(node, ast.ClassDef):
                    self.classes[node.name] = node
                    for item in node.body:
                        if isinstance(item, ast.FunctionDef):
                            self._add(item)

    def _add(self, method):
        marks = {ast.unparse(mark) for mark in method.decorator_list}
        if "property" in marks or method.name.startswith("__") and method.name not in ALTERING:
            self.quiet.append(method)
        elif not any(mark.endswith(".setter") for mark in marks):
            self.named.setdefault(method.name, []).append(method)

    def called(self, function):
        """The names of what a function calls; that of a class stands for its way of being made."""
        names = set()
        for node in ast.walk(function):
            if isinstance(node, ast.Call):
                names.add(node.func.id if isinstance(node.func, ast.Name) else node.func.attr)
        return names

    def reached(self):
        """All names that methods which must alter nothing call, also by way of others."""
        found, waiting = set(), [name for method in self.quiet for name in self.called(method)]
        while waiting:
            name = waiting.pop()
            if name not in found:
                found.add(name)
                functions_there = self.named.get(name, [])
                if name in self.classes:
                    functions_there = [
                        item for item in self.classes[name].body if getattr(item, "name", "") == "__init__"
                    ]
                waiting += [inner for function in functions_there for inner in self.called(function)]
        return found


def made_here(function):
    """The local names that are assigned nothing but new lists and dicts."""
    made, other = set(), {argument.arg for argument in function.args.args}
    for node in ast.walk(function):
        if isinstance(node, ast.Assign):
            for target in node.targets:
                if isinstance(target, ast.Name):
                    new = isinstance(node.value, (ast.List, ast.Dict, ast.ListComp))
                    (made if new else other).add(target.id)
    return made - other


def alterations(function):
    """The rows in which a function alters what it has not made itself, or calls what it is handed."""
    own, rows = made_here(function), []
    handed = {argument.arg for argument in function.args.args} - {"cls"}

    def foreign(node):
        return not (isinstance(node, ast.Name) and node.id in own)

    for node in ast.walk(function):
        if isinstance(node, (ast.Attribute, ast.Subscript)) and isinstance(node.ctx, (ast.Store, ast.Del)):
            if foreign(node.value):
                rows.append(node.lineno)
        elif isinstance(node, ast.Call):
            if isinstance(node.func, ast.Attribute) and node.func.attr in ALTERING_CALLS and foreign(node.func.value):
                rows.append(node.lineno)
            if isinstance(node.func, ast.Name) and node.func.id in handed:
                rows.append(node.lineno)
        elif isinstance(node, (ast.AugAssign, ast.Global, ast.Nonlocal)):
            rows.append(node.lineno)
    return rows


class QuietTest(unittest.TestCase):
    """Operators, properties, `__eq__`, `__str__` and their kin alter nothing, whatever goes by the names they call."""

    def test_what_they_call_has_a_name_of_its_own(self):
        calls = Calls()
        for name in sorted(calls.reached()):
            with self.subTest(name=name):
                self.assertLessEqual(len(calls.named.get(name, [])), 1)

    def test_they_alter_nothing(self):
        calls = Calls()
        reached = [function for name in calls.reached() for function in calls.named.get(name, [])]
        self.assertGreater(len(reached), 10)
        for function in calls.quiet + reached:
            with self.subTest(name=function.name):
                self.assertEqual(alterations(function), [])


class FormsTest(unittest.TestCase):
    def test_raise(self):
        """An error is created on the spot, by the name of a class."""
        classes = set(Calls().classes) | {"TypeError", "AttributeError"}
        for path in files():
            for node in ast.walk(tree(path)):
                if isinstance(node, ast.Raise):
                    with self.subTest(file=path.name, row=node.lineno):
                        self.assertIsInstance(node.exc, ast.Call)
                        self.assertIn(node.exc.func.id, classes)
                        if node.cause is not None:
                            self.assertTrue(isinstance(node.cause, ast.Name) or ast.unparse(node.cause) == "None")

    def test_is(self):
        for path in files():
            for node in ast.walk(tree(path)):
                if isinstance(node, ast.Compare) and any(isinstance(sign, (ast.Is, ast.IsNot)) for sign in node.ops):
                    with self.subTest(file=path.name, row=node.lineno):
                        self.assertIn(ast.unparse(node.comparators[-1]), ("None", "True", "False"))

    def test_exit(self):
        """What `__exit__` may contain: attributes that are assigned attributes, under `kind is None` or not."""
        found = []
        for node in ast.walk(Calls().classes["Trial"]):
            if isinstance(node, ast.FunctionDef) and node.name == "__exit__":
                found.append([argument.arg for argument in node.args.args])
                rows = list(node.body)
                for row in rows:
                    if isinstance(row, ast.If):
                        self.assertIn(ast.unparse(row.test), ("kind is None", "kind is not None"))
                        rows += row.body + row.orelse
                    else:
                        self.assertIsInstance(row, ast.Assign)
                        self.assertIsInstance(row.value, ast.Attribute)
                        self.assertEqual([type(target) for target in row.targets], [ast.Attribute])
        self.assertEqual(found, [["self", "kind", "value", "trace"]])

    def test_iterating_over_sheets(self):
        """A class with `__getitem__` has an `__iter__`, which refuses."""
        for node in Calls().classes.values():
            methods = {item.name: item for item in node.body if isinstance(item, ast.FunctionDef)}
            if "__getitem__" in methods:
                [row] = methods["__iter__"].body
                self.assertIsInstance(row, ast.Raise)
                self.assertEqual(row.exc.func.id, "TypeError")

    def test_stars(self):
        """Behind a star stand only names and attributes off a name."""
        for path in files():
            for node in ast.walk(tree(path)):
                if isinstance(node, ast.Starred):
                    inner = node.value.value if isinstance(node.value, ast.Attribute) else node.value
                    self.assertIsInstance(inner, ast.Name)

    def test_loops_do_not_alter_what_they_go_over(self):
        for path in files():
            for node in ast.walk(tree(path)):
                if isinstance(node, ast.For):
                    gone = {ast.unparse(part) for part in ast.walk(node.iter) if isinstance(part, (ast.Name, ast.Attribute))}
                    for inner in [part for row in node.body for part in ast.walk(row)]:
                        changed = None
                        if isinstance(inner, ast.Call) and isinstance(inner.func, ast.Attribute):
                            changed = inner.func.value if inner.func.attr in ALTERING_CALLS else None
                        elif isinstance(inner, ast.Subscript) and not isinstance(inner.ctx, ast.Load):
                            changed = inner.value
                        if changed is not None:
                            with self.subTest(file=path.name, row=inner.lineno):
                                self.assertNotIn(ast.unparse(changed), gone)


if __name__ == "__main__":
    unittest.main()
