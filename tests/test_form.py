"""The form of the package's files: those rules of ../shared/LANGUAGE.md that can be seen in a file by itself."""

import ast
import builtins
import re
import unittest
from pathlib import Path

PACKAGE = Path(__file__).resolve().parent.parent / "keenscale"

STATEMENTS = (
    ast.Assign, ast.AugAssign, ast.If, ast.While, ast.For, ast.Return, ast.Break, ast.Continue, ast.Pass,
    ast.Raise, ast.Try, ast.Expr, ast.FunctionDef, ast.ClassDef, ast.ImportFrom,
)
OUT = (
    ast.Set, ast.SetComp, ast.DictComp, ast.GeneratorExp, ast.NamedExpr, ast.Starred, ast.Div, ast.MatMult,
    ast.Await, ast.Yield, ast.YieldFrom,
)
OWN_NAMES = """
    len range enumerate zip min max sum abs sorted reversed int str bool list tuple dict set frozenset isinstance
    ord repr any all divmod Exception ValueError TypeError KeyError IndexError LookupError ZeroDivisionError
    ArithmeticError OverflowError RuntimeError NotImplementedError StopIteration
""".split()
METHODS = """
    append clear copy count endswith extend find get index insert isalnum isalpha isdigit islower isspace isupper
    items join keys ljust lower lstrip partition pop remove replace reverse rfind rjust rpartition rsplit rstrip
    setdefault split splitlines startswith strip update upper values zfill bit_length
""".split()
WALKED = ("zip", "enumerate", "reversed", "range", "items", "keys", "values")
WALKERS = ("list", "tuple", "dict", "sorted", "sum", "any", "all", "enumerate", "zip", "min", "max", "join")
WORDS = re.compile(
    r"\b(type|typing|typing_extensions|enum|Enum|IntEnum|StrEnum|Flag|IntFlag|Generic|Protocol|ABC|ABCMeta|namedtuple"
    r"|NamedTuple|TypedDict|TYPE_CHECKING|abstractmethod)\b|dataclass|overload|contextmanager"
)


def bound_names(tree):
    names = [node.id for node in ast.walk(tree) if isinstance(node, ast.Name) and isinstance(node.ctx, ast.Store)]
    names += [node.arg for node in ast.walk(tree) if isinstance(node, ast.arg)]
    return names


def drawn_from(tree):
    return [node.module for node in ast.walk(tree) if isinstance(node, ast.ImportFrom)]


def called(node):
    """The name by which a function or method is called, or None."""
    if not isinstance(node, ast.Call):
        return None
    return node.func.attr if isinstance(node.func, ast.Attribute) else getattr(node.func, "id", None)


def top_names(tree):
    names = []
    for node in tree.body:
        if isinstance(node, (ast.FunctionDef, ast.ClassDef)):
            names.append(node.name)
        elif isinstance(node, ast.ImportFrom):
            names += [part.asname or part.name for part in node.names]
        elif isinstance(node, ast.Assign):
            names.append(node.targets[0].id)
    return names


def names_within_defs(tree):
    names = []
    for node in ast.walk(tree):
        if isinstance(node, ast.FunctionDef):
            names += bound_names(node)
    return names


class Form(unittest.TestCase):
    def setUp(self):
        self.files = {path.stem: path for path in sorted(PACKAGE.rglob("*.py"))}
        self.trees = {name: ast.parse(path.read_text("utf-8")) for name, path in self.files.items()}

    def walk(self):
        return [(name, node) for name, tree in self.trees.items() for node in ast.walk(tree)]

    def test_plain_files_alone(self):
        found = [path for path in PACKAGE.iterdir() if path.name != "__pycache__"]
        self.assertEqual(sorted(found), sorted(self.files.values()))
        for path in found:
            self.assertRegex(path.name, r"^([a-z][a-z0-9_]*|__init__|__main__)\.py$")
        self.assertIn("__init__", self.files)

    def test_signs_words_and_size(self):
        for name, path in self.files.items():
            text = path.read_text("utf-8")
            self.assertRegex(text, r"^[ -~\n]*\Z", name)
            self.assertIsNone(WORDS.search(text), name)
            rows = text.split("\n")
            self.assertLessEqual(len(rows), 400, name)
            self.assertLessEqual(max(len(row) for row in rows), 120, name)

    def test_functions_are_short_and_plain(self):
        for name, node in self.walk():
            if isinstance(node, ast.FunctionDef):
                self.assertLessEqual(node.end_lineno - node.lineno + 1, 40, (name, node.name))
                given = node.args
                self.assertFalse(given.vararg or given.kwarg or given.kwonlyargs or given.posonlyargs, node.name)
                self.assertEqual(node.decorator_list, [], node.name)

    def test_classes_are_plain(self):
        for name, node in self.walk():
            if isinstance(node, ast.ClassDef):
                self.assertLessEqual(len(node.bases), 1, node.name)
                self.assertEqual((node.decorator_list, node.keywords), ([], []), node.name)
                for part in node.body:
                    self.assertIsInstance(part, (ast.FunctionDef, ast.Pass), node.name)

    def test_imports_draw_from_the_package_without_a_round(self):
        for name, node in self.walk():
            if isinstance(node, ast.ImportFrom):
                self.assertEqual(node.level, 0, name)
                self.assertRegex(node.module, r"^keenscale\.[a-z0-9_]+$", name)
                self.assertNotIn("*", [part.name for part in node.names], name)
        left = {f"keenscale.{name}": drawn_from(tree) for name, tree in self.trees.items()}
        while left:
            ready = [name for name, drawn in left.items() if not set(drawn) & set(left)]
            self.assertTrue(ready, left)
            left = {name: drawn for name, drawn in left.items() if name not in ready}
        self.assertEqual(drawn_from(self.trees["__init__"]), [])

    def test_statements_and_expressions(self):
        for name, node in self.walk():
            where = (name, getattr(node, "lineno", None))
            self.assertNotIsInstance(node, OUT, where)
            if isinstance(node, ast.stmt):
                self.assertIsInstance(node, STATEMENTS, where)
            if isinstance(node, (ast.For, ast.While)):
                self.assertEqual(node.orelse, [], where)
            if isinstance(node, ast.Assign):
                self.assertEqual(len(node.targets), 1, where)
            if isinstance(node, ast.ListComp):
                self.assertEqual(len(node.generators), 1, where)
                self.assertLessEqual(len(node.generators[0].ifs), 1, where)
            if isinstance(node, ast.Constant):
                self.assertNotIsInstance(node.value, (float, complex, bytes), where)
                self.assertNotIn("%", str(node.value), where)
            if isinstance(node, ast.Compare) and any(isinstance(op, (ast.Is, ast.IsNot)) for op in node.ops):
                self.assertIsInstance(node.comparators[-1], ast.Constant, where)

    def test_names(self):
        for name, tree in self.trees.items():
            for bound in bound_names(tree):
                self.assertFalse(bound.startswith("_"), (name, bound))
                self.assertFalse(hasattr(builtins, bound), (name, bound))
            for node in ast.walk(tree):
                if isinstance(node, ast.Name) and hasattr(builtins, node.id):
                    self.assertIn(node.id, OWN_NAMES, (name, node.lineno))

    def test_methods(self):
        own = [node.name for name, node in self.walk() if isinstance(node, ast.FunctionDef)]
        for name, node in self.walk():
            if isinstance(node, ast.Call) and isinstance(node.func, ast.Attribute):
                self.assertIn(node.func.attr, METHODS + own, (name, node.lineno))

    def test_each_name_once(self):
        for name, tree in self.trees.items():
            tops = top_names(tree)
            self.assertEqual(sorted(set(tops)), sorted(tops), name)
            self.assertEqual(set(tops) & set(names_within_defs(tree)), set(), name)

    def test_methods_and_values_are_apart(self):
        methods, values = set(), set()
        for name, node in self.walk():
            if isinstance(node, ast.ClassDef):
                own = [part.name for part in node.body if isinstance(part, ast.FunctionDef)]
                self.assertEqual(len(set(own)), len(own), node.name)
                methods.update(own)
            if isinstance(node, ast.Attribute) and isinstance(node.ctx, ast.Store):
                self.assertIsInstance(node.value, ast.Name, (name, node.lineno))
                values.add(node.attr)
        self.assertEqual(methods & values, set())
        for kind in (str, int, list, dict, set, bytes, tuple):
            self.assertEqual({found for found in methods | values if found[:2] != "__"} & set(dir(kind)), set())

    def test_walked_at_once(self):
        for name, tree in self.trees.items():
            allowed = [node.iter for node in ast.walk(tree) if isinstance(node, (ast.For, ast.comprehension))]
            for node in ast.walk(tree):
                if called(node) in WALKERS:
                    allowed += node.args
            for node in ast.walk(tree):
                if called(node) in WALKED:
                    self.assertTrue(any(node is place for place in allowed), (name, node.lineno))

    def test_sets_are_not_kept(self):
        for name, tree in self.trees.items():
            allowed = []
            for node in ast.walk(tree):
                if called(node) in ("sorted", "len"):
                    allowed += node.args
                elif isinstance(node, ast.Compare):
                    allowed += [node.left] + node.comparators
            for node in ast.walk(tree):
                if called(node) in ("set", "frozenset"):
                    self.assertTrue(any(node is place for place in allowed), (name, node.lineno))


if __name__ == "__main__":
    unittest.main()
