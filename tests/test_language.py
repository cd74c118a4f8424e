"""What can be seen of the rules in LANGUAGE.md from the package's files alone."""

import ast
import builtins
import pathlib
import re
import unittest

PACKAGE = pathlib.Path(__file__).resolve().parent.parent / "closedroom"

STATEMENTS = (
    ast.FunctionDef, ast.ClassDef, ast.Assign, ast.AugAssign, ast.If, ast.While, ast.For, ast.Return, ast.Break,
    ast.Continue, ast.Pass, ast.Raise, ast.Try, ast.Expr, ast.ImportFrom,
)
EXPRESSIONS = (
    ast.Constant, ast.List, ast.Tuple, ast.Dict, ast.BinOp, ast.UnaryOp, ast.BoolOp, ast.Compare, ast.IfExp,
    ast.Call, ast.Attribute, ast.Subscript, ast.Slice, ast.ListComp, ast.Name, ast.Lambda,
)
OPERATORS_OUT = (ast.Div, ast.MatMult)
BUILTINS = set("""
len range enumerate zip min max sum abs sorted reversed int str bool list tuple dict set frozenset isinstance ord
repr any all divmod Exception ValueError TypeError KeyError IndexError LookupError ZeroDivisionError ArithmeticError
OverflowError RuntimeError NotImplementedError AttributeError StopIteration
""".split())
METHODS = set("""
append clear copy count endswith extend find get index insert isalnum isalpha isdigit islower isspace isupper items
join keys ljust lower lstrip partition pop remove replace reverse rfind rjust rpartition rsplit rstrip setdefault
split splitlines startswith strip update upper values zfill bit_length
""".split())
WORDS_OUT = re.compile(
    r"\b(type|typing|typing_extensions|enum|Enum|IntEnum|StrEnum|Flag|IntFlag|Generic|Protocol|ABC|ABCMeta|namedtuple"
    r"|NamedTuple|TypedDict|TYPE_CHECKING|abstractmethod|register|mro|elements|open|input)\b"
    r"|dataclass|overload|contextmanager"
)
DUNDER_METHODS = ("__init__", "__eq__", "__repr__", "__str__", "__len__")


def files():
    return sorted(PACKAGE.glob("*.py"))


def trees():
    return [(path.name, ast.parse(path.read_text(encoding="ascii"))) for path in files()]


def nodes(kind):
    return [(name, node) for name, tree in trees() for node in ast.walk(tree) if isinstance(node, kind)]


def defined_methods():
    return {
        item.name for name, node in nodes(ast.ClassDef) for item in node.body if isinstance(item, ast.FunctionDef)
    }


def stored_values():
    return {node.attr for name, node in nodes(ast.Attribute) if isinstance(node.ctx, ast.Store)}


def given_names(tree):
    given = {node.id for node in ast.walk(tree) if isinstance(node, ast.Name) and isinstance(node.ctx, ast.Store)}
    given |= {node.arg for node in ast.walk(tree) if isinstance(node, ast.arg)}
    return given


class Files(unittest.TestCase):
    def test_only_python_files_with_plain_names(self):
        for path in PACKAGE.iterdir():
            if path.name != "__pycache__":
                self.assertRegex(path.name, r"^([a-z][a-z0-9_]*|__init__|__main__)\.py$")
                self.assertNotIn(path.stem, dir(builtins))

    def test_sizes_and_signs(self):
        for path in files():
            rows = path.read_text(encoding="ascii").split("\n")
            self.assertLessEqual(len(rows), 401, path.name)
            for place, line in enumerate(rows, start=1):
                self.assertLessEqual(len(line), 120, (path.name, place))
                self.assertRegex(line, r"^[ -~]*$", (path.name, place))
                self.assertIsNone(WORDS_OUT.search(line), (path.name, place))

    def test_functions_have_at_most_40_lines(self):
        for name, node in nodes(ast.FunctionDef):
            self.assertLessEqual(node.end_lineno - node.lineno + 1, 40, (name, node.name))


class Forms(unittest.TestCase):
    def test_statements_and_expressions(self):
        for name, node in nodes((ast.stmt, ast.expr)):
            self.assertIsInstance(node, STATEMENTS + EXPRESSIONS, (name, node.lineno))
        for name, node in nodes(ast.operator):
            self.assertNotIsInstance(node, OPERATORS_OUT, name)

    def test_parts_of_statements(self):
        for name, node in nodes((ast.For, ast.While)):
            self.assertEqual(node.orelse, [], (name, node.lineno))
        for name, node in nodes(ast.Assign):
            self.assertEqual(len(node.targets), 1, (name, node.lineno))
        for name, node in nodes(ast.ListComp):
            self.assertEqual(len(node.generators), 1, (name, node.lineno))
            self.assertLessEqual(len(node.generators[0].ifs), 1, (name, node.lineno))
        for name, node in nodes((ast.FunctionDef, ast.ClassDef)):
            self.assertEqual(node.decorator_list, [], (name, node.lineno))

    def test_a_constant_is_no_statement_but_at_the_top(self):
        for name, tree in trees():
            for node in ast.walk(tree):
                if isinstance(node, ast.Expr) and node != tree.body[0]:
                    self.assertIsInstance(node.value, ast.Call, (name, node.lineno))

    def test_constants(self):
        for name, node in nodes(ast.Constant):
            self.assertIsInstance(node.value, (int, str, type(None)), (name, node.lineno))
            if isinstance(node.value, str):
                self.assertNotIn("%", node.value, (name, node.lineno))

    def test_is_stands_beside_none_true_and_false(self):
        for name, node in nodes(ast.Compare):
            for operator, right in zip(node.ops, node.comparators):
                if isinstance(operator, (ast.Is, ast.IsNot)):
                    self.assertIsInstance(right, ast.Constant, (name, node.lineno))


class Names(unittest.TestCase):
    def test_imports_are_the_packages_own_in_no_circle(self):
        drawn = {}
        for name, node in nodes(ast.ImportFrom):
            self.assertTrue(node.module.startswith("closedroom."), (name, node.module))
            drawn.setdefault(name[:-3], []).append(node.module.split(".")[1])
        self.assertNotIn("__init__", drawn)
        reached = set()
        while drawn:
            ready = [name for name in drawn if not set(drawn[name]) & (set(drawn) - reached)]
            self.assertTrue(ready, drawn)
            reached |= set(ready)
            drawn = {name: drawn[name] for name in drawn if name not in ready}

    def test_names_are_plain_and_not_pythons_own(self):
        for name, tree in trees():
            own = {node.name for node in ast.walk(tree) if isinstance(node, (ast.FunctionDef, ast.ClassDef))}
            imported = {one.name for node in ast.walk(tree) if isinstance(node, ast.ImportFrom) for one in node.names}
            given = given_names(tree)
            for word in given | own:
                self.assertTrue(word in DUNDER_METHODS or re.match("^[A-Za-z][A-Za-z0-9_]*$", word), (name, word))
                self.assertNotIn(word, dir(builtins), name)
            self.assertEqual(given & imported, set(), name)
            self.assertEqual(own & imported, set(), name)

    def test_only_some_of_pythons_own_names_are_used(self):
        for name, node in nodes(ast.Name):
            if node.id in dir(builtins):
                self.assertIn(node.id, BUILTINS, (name, node.lineno))

    def test_methods_and_values_of_objects(self):
        methods = defined_methods() - set(DUNDER_METHODS)
        values = stored_values()
        self.assertEqual(methods & values, set())
        for kind in (str, int, list, dict, set, bytes):
            self.assertEqual((methods | values) & set(dir(kind)), set())
        for name, node in nodes(ast.Attribute):
            self.assertIn(node.attr, METHODS | methods | values, (name, node.lineno))

    def test_no_name_is_given_twice_at_the_top(self):
        for name, tree in trees():
            given = [node.name for node in tree.body if isinstance(node, (ast.FunctionDef, ast.ClassDef))]
            given += [node.targets[0].id for node in tree.body if isinstance(node, ast.Assign)]
            self.assertEqual(len(given), len(set(given)), name)


if __name__ == "__main__":
    unittest.main()
