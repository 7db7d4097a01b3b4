"""The form of the code: those rules of ../shared/LANGUAGE.md that are easily broken by accident."""

import ast
import builtins
import pathlib
import re
import unittest

PACKAGE = pathlib.Path(__file__).resolve().parent.parent / "handedpast"
FILES = sorted(path for path in PACKAGE.rglob("*") if path.is_file() and "__pycache__" not in path.parts)

# The order of the interface: a file uses only files listed above it.
ORDER = ["errors", "fractions", "tables", "pairs", "orders", "play", "counting", "shares", "keeping", "tracks",
         "books", "broad", "paces", "elsewhere", "texts", "console"]
LIBRARY = {
    "heapq": {"heappush", "heappop", "heapify", "heapreplace", "heappushpop"},
    "math": {"gcd", "lcm", "isqrt", "comb", "perm", "factorial"},
}
STATEMENTS = (
    ast.FunctionDef, ast.ClassDef, ast.Return, ast.Delete, ast.Assign, ast.AugAssign, ast.For, ast.While, ast.If,
    ast.With, ast.Match, ast.Raise, ast.Try, ast.Assert, ast.ImportFrom, ast.Nonlocal, ast.Expr, ast.Pass, ast.Break,
    ast.Continue,
)
BUILTINS = set("""len range enumerate zip min max sum abs sorted reversed int str bool bytes list tuple dict set
    frozenset isinstance ord repr any all divmod map iter next super property staticmethod classmethod
    Exception ValueError TypeError KeyError IndexError LookupError ZeroDivisionError ArithmeticError OverflowError
    RuntimeError NotImplementedError AttributeError StopIteration NotImplemented""".split())
METHODS = set("""append clear copy count endswith extend find get index insert isalnum isalpha isdigit islower isspace
    isupper items join keys ljust lower lstrip partition pop remove replace reverse rfind rjust rpartition rsplit
    rstrip setdefault split splitlines startswith strip update upper values zfill bit_length add discard""".split())
SPECIAL = {"__init__", "__eq__", "__repr__", "__str__", "__len__", "__enter__", "__exit__", "__call__", "__iter__"}
WORDS = set("""type typing typing_extensions enum Enum IntEnum StrEnum Flag IntFlag Generic Protocol ABC ABCMeta
    namedtuple NamedTuple TypedDict TYPE_CHECKING abstractmethod open input register mro elements law""".split())


def bound_names(tree):
    """All names that functions, classes, parameters, imports and assignments bind."""
    for node in ast.walk(tree):
        if isinstance(node, (ast.FunctionDef, ast.ClassDef)):
            yield node.name
        elif isinstance(node, ast.arg):
            yield node.arg
        elif isinstance(node, ast.alias):
            yield node.asname or node.name
        elif isinstance(node, ast.Name) and not isinstance(node.ctx, ast.Load):
            yield node.id


def own_method_names(tree):
    """The names of all methods of the classes of a file."""
    for node in ast.walk(tree):
        if isinstance(node, ast.ClassDef):
            yield from (part.name for part in node.body if isinstance(part, ast.FunctionDef))


class FormTest(unittest.TestCase):
    def setUp(self):
        self.trees = {path: ast.parse(path.read_text(encoding="ascii")) for path in FILES}

    def nodes(self, *kinds):
        for path, tree in self.trees.items():
            for node in ast.walk(tree):
                if isinstance(node, kinds):
                    yield f"{path.name}:{getattr(node, 'lineno', 0)}", node

    def test_files(self):
        self.assertIn(PACKAGE / "__init__.py", FILES)
        for path in FILES:
            self.assertRegex(path.name, r"\A[a-z_]+\.py\Z")
            text = path.read_text(encoding="ascii")
            self.assertEqual(re.findall(r"[^ -~\n]", text), [], path.name)
            lines = text.splitlines()
            self.assertLessEqual(len(lines), 399, path.name)
            self.assertLessEqual(max(map(len, lines)), 120, path.name)

    def test_imports(self):
        for path, tree in self.trees.items():
            for node in tree.body:
                if not isinstance(node, ast.ImportFrom):
                    continue
                words = node.module.split(".")
                self.assertEqual(node.level, 0, path.name)
                self.assertTrue(all(alias.asname is None and alias.name != "*" for alias in node.names), path.name)
                if words[0] == "handedpast":
                    self.assertEqual(len(words), 2, path.name)
                    self.assertLess(ORDER.index(words[1]), ORDER.index(path.stem), path.name)
                else:
                    self.assertLessEqual({alias.name for alias in node.names}, LIBRARY[node.module], path.name)

    def test_module_level(self):
        for path, tree in self.trees.items():
            for node in tree.body:
                docstring = isinstance(node, ast.Expr) and isinstance(node.value, ast.Constant)
                kinds = (ast.ImportFrom, ast.FunctionDef, ast.ClassDef, ast.Assign)
                self.assertTrue(docstring or isinstance(node, kinds), f"{path.name}:{node.lineno}")
            names = [node.name for node in tree.body if isinstance(node, (ast.FunctionDef, ast.ClassDef))]
            self.assertEqual(len(names), len(set(names)), path.name)

    def test_statements(self):
        for place, node in self.nodes(ast.stmt):
            self.assertIsInstance(node, STATEMENTS, place)

    def test_functions(self):
        for place, node in self.nodes(ast.FunctionDef):
            self.assertLessEqual(node.end_lineno - node.lineno + 1, 40, place)
            for decorator in node.decorator_list:
                self.assertIn(ast.unparse(decorator), ["property", "staticmethod", "classmethod"], place)
            if node.name.startswith("__"):
                self.assertIn(node.name, SPECIAL, place)
            self.assertIsNone(node.returns, place)
        for place, node in self.nodes(ast.arg):
            self.assertIsNone(node.annotation, place)

    def test_numbers(self):
        for place, node in self.nodes(ast.Constant):
            self.assertNotIsInstance(node.value, (float, complex), place)
            self.assertNotIn("%", node.value if isinstance(node.value, str) else "", place)
        for place, node in self.nodes(ast.Div):
            self.fail(f"a / in {place}")

    def test_names(self):
        every_builtin = set(dir(builtins))
        for path, tree in self.trees.items():
            bound = set(bound_names(tree))
            self.assertEqual({name for name in bound if name in every_builtin}, set(), path.name)
            self.assertEqual(bound & WORDS, set(), path.name)
            read = {node.id for node in ast.walk(tree) if isinstance(node, ast.Name)} - bound
            self.assertEqual(read - BUILTINS, set(), path.name)

    def test_no_local_name_is_an_import_or_a_class(self):
        for path, tree in self.trees.items():
            taken = {node.name for node in tree.body if isinstance(node, ast.ClassDef)}
            for node in tree.body:
                if isinstance(node, ast.ImportFrom):
                    taken.update(alias.name for alias in node.names)
            for node in ast.walk(tree):
                if isinstance(node, ast.FunctionDef):
                    inner = {name for part in node.body for name in bound_names(part)}
                    inner.update(bound_names(node.args))
                    self.assertEqual(inner & taken, set(), f"{path.name}:{node.lineno}")

    def test_methods(self):
        own = {name for tree in self.trees.values() for name in own_method_names(tree)}
        for place, node in self.nodes(ast.Call):
            if isinstance(node.func, ast.Attribute):
                self.assertIn(node.func.attr, own | METHODS, place)

    def test_generators(self):
        names = [node.name for _, node in self.nodes(ast.FunctionDef)]
        yielding = (ast.Yield, ast.YieldFrom)
        own = {node.name for _, node in self.nodes(ast.FunctionDef)
               if any(isinstance(part, yielding) for part in ast.walk(node))}
        self.assertEqual({name for name in own if names.count(name) > 1} | own & METHODS, set())
        at_once = set()
        for _, node in self.nodes(ast.For, ast.comprehension, ast.YieldFrom):
            at_once.add(node.value if isinstance(node, ast.YieldFrom) else node.iter)
        for place, node in self.nodes(ast.Call):
            name = node.func.attr if isinstance(node.func, ast.Attribute) else getattr(node.func, "id", None)
            if name in own:
                self.assertIn(node, at_once, place)

    def test_tries(self):
        errors = {node.name for node in self.trees[PACKAGE / "errors.py"].body if isinstance(node, ast.ClassDef)}
        for place, node in self.nodes(ast.Try):
            for handler in node.handlers:
                self.assertIn(handler.type.id, errors, place)
                self.assertIsNone(handler.name, place)
            # A finally only assigns names and attributes to such.
            for row in node.finalbody:
                self.assertIsInstance(row, ast.Assign, place)
                parts = [part for part in ast.walk(row) if isinstance(part, ast.expr)]
                for part in parts:
                    self.assertIsInstance(part, (ast.Name, ast.Attribute, ast.Tuple), place)

    def test_module_level_tables_are_only_read(self):
        for path, tree in self.trees.items():
            tables = {node.targets[0].id for node in tree.body
                      if isinstance(node, ast.Assign) and isinstance(node.value, (ast.Dict, ast.List))}
            read = set()
            for node in ast.walk(tree):
                if isinstance(node, (ast.Subscript, ast.Attribute)):
                    read.add(node.value)
                elif isinstance(node, ast.Compare):
                    read.update(node.comparators)
            for node in ast.walk(tree):
                if isinstance(node, ast.Name) and isinstance(node.ctx, ast.Load) and node.id in tables:
                    self.assertIn(node, read, f"{path.name}:{node.lineno}")

    def test_properties(self):
        names = [node.name for _, node in self.nodes(ast.FunctionDef)]
        for place, node in self.nodes(ast.FunctionDef):
            if [ast.unparse(decorator) for decorator in node.decorator_list] == ["property"]:
                self.assertEqual(names.count(node.name), 1, place)
                self.assertFalse([part for part in ast.walk(node) if isinstance(part, ast.Call)], place)

    def test_imports_are_used(self):
        for path, tree in self.trees.items():
            read = {node.id for node in ast.walk(tree) if isinstance(node, ast.Name)}
            for node in tree.body:
                if isinstance(node, ast.ImportFrom):
                    self.assertEqual({alias.name for alias in node.names} - read, set(), path.name)

    def test_generator_expressions(self):
        for place, node in self.nodes(ast.GeneratorExp, ast.Set, ast.SetComp):
            self.fail(f"{type(node).__name__} in {place}: see L7 and L24 before it is allowed here")


if __name__ == "__main__":
    unittest.main()
