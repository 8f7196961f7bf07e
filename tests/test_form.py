"""The form of the package's files: those of the language's rules that are plain to see."""

import ast
import builtins
import pathlib
import re
import unittest

FOLDER = pathlib.Path(__file__).resolve().parent.parent / "lyingsensors"
FILES = sorted(FOLDER.glob("*.py"))

BUILT_IN = set((
    "len range enumerate zip min max sum abs sorted reversed int str bool list tuple dict set frozenset isinstance "
    "ord repr any all divmod Exception ValueError TypeError KeyError IndexError LookupError ZeroDivisionError "
    "ArithmeticError OverflowError RuntimeError NotImplementedError AttributeError StopIteration").split())
METHODS = set((
    "append clear copy count endswith extend find get index insert isalnum isalpha isdigit islower isspace isupper "
    "items join keys ljust lower lstrip partition pop remove replace reverse rfind rjust rpartition rsplit rstrip "
    "setdefault split splitlines startswith strip update upper values zfill bit_length").split())
WORDS = re.compile(
    r"\b(type|typing|typing_extensions|enum|Enum|IntEnum|StrEnum|Flag|IntFlag|Generic|Protocol|ABC|ABCMeta|namedtuple"
    r"|NamedTuple|TypedDict|TYPE_CHECKING|abstractmethod)\b|dataclass|overload|contextmanager")
UNUSED = (
    ast.With, ast.Match, ast.Delete, ast.Global, ast.Nonlocal, ast.Assert, ast.Yield, ast.YieldFrom, ast.Await,
    ast.AsyncFunctionDef, ast.AsyncFor, ast.AsyncWith, ast.SetComp, ast.DictComp, ast.GeneratorExp, ast.NamedExpr,
    ast.Starred, ast.Div, ast.Import)


def trees():
    return [(path.name, ast.parse(path.read_text())) for path in FILES]


def nodes(kind):
    return [(name, node) for name, tree in trees() for node in ast.walk(tree) if isinstance(node, kind)]


def called(node):
    """The last name of what a call calls."""
    return node.func.attr if isinstance(node.func, ast.Attribute) else getattr(node.func, "id", None)


class FormTest(unittest.TestCase):
    def test_there_are_only_plain_files(self):
        names = [path.name for path in FOLDER.iterdir() if path.name != "__pycache__"]
        self.assertEqual(sorted(names), [path.name for path in FILES])
        for name in names:
            self.assertRegex(name, r"^[a-z0-9_]+\.py$")

    def test_signs_and_sizes(self):
        for path in FILES:
            text = path.read_bytes().decode("ascii")
            self.assertRegex(text, r"^[ -~\n]*$")
            self.assertIsNone(WORDS.search(text), path)
            self.assertLessEqual(len(text.splitlines()), 400, path)
            self.assertLessEqual(max(len(row) for row in text.splitlines()), 120, path)

    def test_functions_are_short_and_plain(self):
        for name, node in nodes(ast.FunctionDef):
            self.assertLessEqual(node.end_lineno - node.lineno + 1, 40, (name, node.name))
            self.assertEqual(node.decorator_list, [])
            self.assertIsNone(node.args.vararg or node.args.kwarg)
            self.assertEqual(node.args.kwonlyargs, [])

    def test_statements_and_expressions(self):
        self.assertEqual(nodes(UNUSED), [])
        for name, node in nodes(ast.Assign):
            self.assertEqual(len(node.targets), 1, (name, node.lineno))
        for name, node in nodes((ast.For, ast.While)):
            self.assertEqual(node.orelse, [], (name, node.lineno))
        for name, node in nodes(ast.ListComp):
            self.assertEqual(len(node.generators), 1, (name, node.lineno))
            self.assertLessEqual(len(node.generators[0].ifs), 1, (name, node.lineno))
        for name, node in nodes(ast.Constant):
            self.assertIn(type(node.value), (int, str, bool, type(None)), (name, node.lineno))

    def test_imports_are_the_packages_own(self):
        for name, node in nodes(ast.ImportFrom):
            self.assertTrue(node.module.startswith("lyingsensors."), name)
            self.assertEqual(node.level, 0, name)

    def test_names_are_known_and_plain(self):
        for name, tree in trees():
            bound = {node.name for node in ast.walk(tree) if isinstance(node, (ast.FunctionDef, ast.ClassDef, ast.alias))}
            bound |= {node.arg for node in ast.walk(tree) if isinstance(node, ast.arg)}
            used = [node for node in ast.walk(tree) if isinstance(node, ast.Name)]
            bound |= {node.id for node in used if isinstance(node.ctx, ast.Store)}
            for word in bound - {"__init__"}:
                self.assertRegex(word, r"^[A-Za-z][A-Za-z0-9_]*$", name)
                self.assertNotIn(word, dir(builtins), name)
            for node in used:
                self.assertTrue(node.id in bound or node.id in BUILT_IN, (name, node.lineno, node.id))

    def test_methods_are_those_of_the_list_or_the_packages_own(self):
        own = {node.name for _, node in nodes(ast.FunctionDef)}
        for name, node in nodes(ast.Call):
            if isinstance(node.func, ast.Attribute):
                self.assertIn(node.func.attr, METHODS | own, (name, node.lineno))

    def test_is_stands_beside_none_true_and_false_alone(self):
        for name, node in nodes(ast.Compare):
            for op, right in zip(node.ops, node.comparators):
                if isinstance(op, (ast.Is, ast.IsNot)):
                    self.assertIn(ast.unparse(right), ("None", "True", "False"), (name, node.lineno))

    def test_what_is_walked_is_walked_on_the_spot(self):
        walked = {"zip", "enumerate", "reversed", "range", "items", "keys", "values"}
        takers = {"list", "tuple", "dict", "sorted", "sum", "any", "all", "enumerate", "zip", "min", "max"}
        places = [node.iter for _, node in nodes((ast.For, ast.comprehension))]
        places += [node.args[0] for _, node in nodes(ast.Call) if called(node) in takers and node.args]
        spots = {(node.lineno, node.col_offset, ast.dump(node)) for node in places}
        for name, node in nodes(ast.Call):
            if called(node) in walked:
                self.assertIn((node.lineno, node.col_offset, ast.dump(node)), spots, (name, node.lineno))

    def test_sets_are_neither_kept_nor_walked(self):
        self.assertEqual(nodes(ast.Set), [])
        sorted_or_counted = [
            ast.dump(node.args[0]) for _, node in nodes(ast.Call)
            if called(node) in ("sorted", "len") and not node.keywords]
        for name, node in nodes(ast.Call):
            if called(node) in ("set", "frozenset"):
                self.assertIn(ast.dump(node), sorted_or_counted, (name, node.lineno))

    def test_locals_are_not_called_like_an_import_or_a_class(self):
        for name, tree in trees():
            taken = {node.name for node in ast.walk(tree) if isinstance(node, (ast.ClassDef, ast.alias))}
            local = {node.arg for node in ast.walk(tree) if isinstance(node, ast.arg)}
            local |= {
                node.id for node in ast.walk(tree) if isinstance(node, ast.Name) and isinstance(node.ctx, ast.Store)}
            self.assertEqual(taken & local, set(), name)


if __name__ == "__main__":
    unittest.main()
