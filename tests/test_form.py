"""The form: the part of Python that the package's files keep to, as far as a look at them can tell."""

import ast
import pathlib
import re
import unittest

PACKAGE = pathlib.Path(__file__).resolve().parent.parent / "tworeadings"
NODES = set(
    "Module Import ImportFrom alias FunctionDef arguments arg ClassDef Lambda Assign AugAssign If While For Return Break"
    " Continue Pass Raise Try ExceptHandler Expr Constant List Tuple Dict Set BinOp UnaryOp BoolOp Compare IfExp Call"
    " keyword Attribute Subscript Slice ListComp comprehension JoinedStr FormattedValue Name Load Store And Or Not USub"
    " Add Sub Mult FloorDiv Mod Pow BitAnd BitOr BitXor Invert LShift RShift Eq NotEq Lt LtE Gt GtE Is IsNot In NotIn"
    .split()
)
BUILT_IN = set(
    "len range enumerate zip min max sum abs sorted reversed int str bool list tuple dict set frozenset isinstance ord"
    " repr any all divmod Exception ValueError TypeError KeyError IndexError LookupError ZeroDivisionError"
    " ArithmeticError OverflowError RuntimeError NotImplementedError AttributeError StopIteration".split()
)
METHODS = set(
    "append clear copy count endswith extend find get index insert isalnum isalpha isdigit islower isspace isupper items"
    " join keys ljust lower lstrip partition pop remove replace reverse rfind rjust rpartition rsplit rstrip setdefault"
    " split splitlines startswith strip update upper values zfill bit_length".split()
)
OUT = re.compile(
    r"\b(type|typing|typing_extensions|enum|Enum|IntEnum|StrEnum|Flag|IntFlag|Generic|Protocol|ABC|ABCMeta|namedtuple"
    r"|NamedTuple|TypedDict|TYPE_CHECKING|abstractmethod)\b|dataclass|overload|contextmanager"
)


def files():
    return sorted(path for path in PACKAGE.rglob("*") if "__pycache__" not in path.parts)


def trees():
    return [(path, ast.parse(path.read_text())) for path in files()]


def walked():
    return [(f"{path.name}:{getattr(node, 'lineno', 0)}", node) for path, tree in trees() for node in ast.walk(tree)]


def called(node):
    return node.func.id if isinstance(node.func, ast.Name) else getattr(node.func, "attr", None)


class FormTest(unittest.TestCase):
    def test_files_and_signs(self):
        self.assertIn(PACKAGE / "__init__.py", files())
        for path in files():
            with self.subTest(path=path.name):
                self.assertRegex(path.name, r"\A(__init__|__main__|[a-z][a-z0-9_]*)\.py\Z")
                text = path.read_bytes().decode("ascii")
                self.assertRegex(text, r"\A[ -~\n]*\Z")
                self.assertIsNone(OUT.search(text))
                self.assertLessEqual(text.count("\n"), 400)
                self.assertLessEqual(max(len(row) for row in text.split("\n")), 120)

    def test_nodes(self):
        for where, node in walked():
            self.assertIn(node.__class__.__name__, NODES, where)

    def test_defs_are_plain_and_short(self):
        for where, node in walked():
            if isinstance(node, (ast.FunctionDef, ast.ClassDef)):
                self.assertEqual(node.decorator_list, [], where)
            if isinstance(node, ast.FunctionDef):
                self.assertLessEqual(node.end_lineno - node.lineno + 1, 40, where)
                given = node.args
                self.assertEqual((given.vararg, given.kwarg, given.kwonlyargs, given.posonlyargs), (None, None, [], []))
            if isinstance(node, ast.ClassDef):
                self.assertLessEqual(len(node.bases), 1, where)
                self.assertEqual([row for row in node.body if not isinstance(row, (ast.FunctionDef, ast.Pass))], [])

    def test_statements(self):
        for where, node in walked():
            if isinstance(node, ast.Assign):
                self.assertEqual(len(node.targets), 1, where)
            if isinstance(node, (ast.For, ast.While)):
                self.assertEqual(node.orelse, [], where)
            if isinstance(node, ast.Expr):
                docstring = isinstance(node.value, ast.Constant) and isinstance(node.value.value, str)
                self.assertTrue(isinstance(node.value, ast.Call) or docstring and node.lineno == 1, where)
            if isinstance(node, ast.comprehension):
                self.assertLessEqual(len(node.ifs), 1, where)
            if isinstance(node, ast.ListComp):
                self.assertEqual(len(node.generators), 1, where)
            if isinstance(node, ast.Constant):
                self.assertIn(node.value.__class__, (int, str, bool, None.__class__), where)

    def test_imports_are_the_own_ones_from_the_defining_file(self):
        for where, node in walked():
            self.assertNotIsInstance(node, ast.Import, where)
            if isinstance(node, ast.ImportFrom):
                self.assertEqual(node.level, 0, where)
                self.assertRegex(node.module, r"\Atworeadings\.[a-z_]+\Z", where)
                source = ast.parse((PACKAGE / (node.module.split(".")[1] + ".py")).read_text())
                bound = [row.name for row in source.body if isinstance(row, (ast.FunctionDef, ast.ClassDef))]
                bound += [row.targets[0].id for row in source.body if isinstance(row, ast.Assign)]
                for alias in node.names:
                    self.assertIn(alias.name, bound, where)

    def test_names(self):
        own = set()
        for where, node in walked():
            if isinstance(node, (ast.FunctionDef, ast.ClassDef)):
                own.add(node.name)
            if isinstance(node, ast.arg):
                own.add(node.arg)
            if isinstance(node, ast.Name) and isinstance(node.ctx, ast.Store):
                own.add(node.id)
            if isinstance(node, ast.alias):
                own.add(node.asname or node.name)
        built_in = set(dir(__builtins__)) if not isinstance(__builtins__, dict) else set(__builtins__)
        for name in own - {"__init__", "__eq__", "__repr__", "__str__", "__len__"}:
            self.assertRegex(name, r"\A[A-Za-z][A-Za-z0-9_]*\Z")
            self.assertNotIn(name, built_in)
        for where, node in walked():
            if isinstance(node, ast.Name) and isinstance(node.ctx, ast.Load):
                self.assertIn(node.id, own | BUILT_IN, where)

    def test_methods(self):
        own = set()
        for where, node in walked():
            if isinstance(node, ast.ClassDef):
                own.update(row.name for row in node.body if isinstance(row, ast.FunctionDef))
        for where, node in walked():
            if isinstance(node, ast.Call) and isinstance(node.func, ast.Attribute):
                self.assertIn(node.func.attr, METHODS | own, where)

    def test_locals_are_not_called_like_a_class_or_an_import(self):
        for path, tree in trees():
            bound = [row.name for row in tree.body if isinstance(row, ast.ClassDef)]
            bound += [alias.name for row in tree.body if isinstance(row, ast.ImportFrom) for alias in row.names]
            self.assertEqual(len(set(bound)), len(bound), path.name)
            for node in ast.walk(tree):
                if isinstance(node, ast.arg):
                    self.assertNotIn(node.arg, bound, f"{path.name}:{node.lineno}")
                if isinstance(node, ast.Name) and isinstance(node.ctx, ast.Store):
                    self.assertNotIn(node.id, bound, f"{path.name}:{node.lineno}")

    def test_no_name_is_a_method_and_a_value(self):
        methods = set()
        values = set()
        for where, node in walked():
            if isinstance(node, ast.ClassDef):
                methods.update(row.name for row in node.body if isinstance(row, ast.FunctionDef))
            if isinstance(node, ast.Attribute) and isinstance(node.ctx, ast.Store):
                values.add(node.attr)
        self.assertEqual(methods & values, set())

    def test_what_is_walked_is_walked_at_once(self):
        walkers = ("list", "tuple", "dict", "sorted", "sum", "any", "all", "enumerate", "zip", "min", "max", "join")
        allowed = set()
        for where, node in walked():
            if isinstance(node, (ast.For, ast.comprehension)):
                allowed.add(node.iter)
            if isinstance(node, ast.Call) and node.args and called(node) in walkers:
                allowed.add(node.args[0])
        for where, node in walked():
            if isinstance(node, ast.Call) and called(node) in (
                    "zip", "enumerate", "reversed", "range", "items", "keys", "values"):
                self.assertIn(ast.dump(node), [ast.dump(each) for each in allowed], where)

    def test_sets_numbers_and_texts(self):
        for where, node in walked():
            self.assertNotIsInstance(node, ast.Set, where)
            if isinstance(node, ast.Call):
                self.assertNotIn(called(node), ("set", "frozenset", "chr"), where)
            if isinstance(node, ast.Constant) and isinstance(node.value, str):
                self.assertNotIn("%", node.value, where)
            if isinstance(node, ast.Compare) and isinstance(node.ops[0], (ast.Is, ast.IsNot)):
                self.assertIsInstance(node.comparators[0], ast.Constant, where)

    def test_no_two_files_draw_from_one_another(self):
        drawn = {}
        for path, tree in trees():
            drawn[path.stem] = [row.module.split(".")[1] for row in tree.body if isinstance(row, ast.ImportFrom)]
        while drawn:
            free = [name for name in drawn if not any(other in drawn for other in drawn[name])]
            self.assertNotEqual(free, [])
            for name in free:
                drawn.pop(name)


if __name__ == "__main__":
    unittest.main()
