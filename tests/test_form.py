"""The package's files keep to a small part of Python, and so use no clock, chance or files."""

import ast
import builtins
import re
import unittest
from pathlib import Path

PACKAGE = Path(__file__).resolve().parent.parent / "onehue"

OWN_NAMES = set(
    """
    len range enumerate zip min max sum abs sorted reversed int str bool list tuple dict set frozenset isinstance
    ord repr any all divmod Exception ValueError TypeError KeyError IndexError LookupError ZeroDivisionError
    ArithmeticError OverflowError RuntimeError NotImplementedError AttributeError StopIteration
    """.split()
)
METHODS_OF_PYTHON = set(
    """
    append clear copy count endswith extend find get index insert isalnum isalpha isdigit islower isspace isupper
    items join keys ljust lower lstrip partition pop remove replace reverse rfind rjust rpartition rsplit rstrip
    setdefault split splitlines startswith strip update upper values zfill bit_length
    """.split()
)
STATEMENTS = (
    ast.FunctionDef, ast.ClassDef, ast.ImportFrom, ast.Assign, ast.AugAssign, ast.If, ast.While, ast.For, ast.Return,
    ast.Break, ast.Continue, ast.Pass, ast.Raise, ast.Try, ast.Expr,
)
EXPRESSIONS = (
    ast.Constant, ast.Name, ast.Attribute, ast.Subscript, ast.Slice, ast.Call, ast.BinOp, ast.UnaryOp, ast.BoolOp,
    ast.Compare, ast.IfExp, ast.List, ast.Tuple, ast.Dict, ast.Set, ast.ListComp, ast.Lambda, ast.JoinedStr,
    ast.FormattedValue,
)
WORDS_NOWHERE = re.compile(
    r"\b(type|typing|typing_extensions|enum|Enum|IntEnum|StrEnum|Flag|IntFlag|Generic|Protocol|ABC|ABCMeta|namedtuple"
    r"|NamedTuple|TypedDict|TYPE_CHECKING|abstractmethod)\b|dataclass|overload|contextmanager"
)


def files():
    return sorted(path for path in PACKAGE.rglob("*") if "__pycache__" not in path.parts)


def trees():
    return [(path.name, ast.parse(path.read_text("utf-8"))) for path in files()]


def nodes(kind):
    return [(name, node) for name, tree in trees() for node in ast.walk(tree) if isinstance(node, kind)]


def names_of_top(tree, with_imports=True):
    names = []
    for node in tree.body:
        if isinstance(node, (ast.FunctionDef, ast.ClassDef)):
            names.append(node.name)
        elif isinstance(node, ast.Assign):
            names.append(node.targets[0].id)
        elif isinstance(node, ast.ImportFrom) and with_imports:
            names += [drawn.asname or drawn.name for drawn in node.names]
    return names


def names_within(function):
    stored = [node.id for node in ast.walk(function) if isinstance(node, ast.Name) and isinstance(node.ctx, ast.Store)]
    return stored + [node.arg for node in ast.walk(function) if isinstance(node, ast.arg)]


class TestForm(unittest.TestCase):
    def test_the_folder_holds_plain_files_alone(self):
        self.assertTrue((PACKAGE / "__init__.py").is_file())
        for path in files():
            self.assertRegex(path.name, r"\A(__init__|[a-z][a-z0-9_]*)\.py\Z")

    def test_signs_rows_and_words(self):
        for path in files():
            text = path.read_text("utf-8")
            rows = text.split("\n")
            with self.subTest(path.name):
                self.assertRegex(text, r"\A[ -~\n]*\Z")
                self.assertLessEqual(len(rows), 400)
                self.assertLessEqual(max(len(row) for row in rows), 120)
                self.assertIsNone(WORDS_NOWHERE.search(text))

    def test_only_the_packages_own_files_are_drawn_from(self):
        for name, node in nodes((ast.Import, ast.ImportFrom)):
            with self.subTest(name, line=node.lineno):
                self.assertIsInstance(node, ast.ImportFrom)
                self.assertEqual(node.level, 0)
                self.assertTrue(node.module.startswith("onehue."))

    def test_statements_and_expressions(self):
        for name, node in nodes((ast.stmt, ast.expr)):
            with self.subTest(name, line=node.lineno):
                self.assertIsInstance(node, STATEMENTS + EXPRESSIONS)
                self.assertNotIsInstance(getattr(node, "op", None), (ast.Div, ast.MatMult))
                self.assertFalse(getattr(node, "decorator_list", []))

    def test_an_expression_by_itself_is_a_call_or_a_files_docstring(self):
        docstrings = [tree.body[0].lineno for name, tree in trees()]
        self.assertEqual(docstrings, [1] * len(files()))
        for name, node in nodes(ast.Expr):
            with self.subTest(name, line=node.lineno):
                self.assertTrue(isinstance(node.value, ast.Call) or node.lineno == 1)

    def test_plain_values(self):
        for name, node in nodes(ast.Constant):
            with self.subTest(name, line=node.lineno):
                self.assertIn(type(node.value), (int, str, bool, type(None)))

    def test_functions_are_small_and_plain(self):
        for name, node in nodes(ast.FunctionDef):
            with self.subTest(name, line=node.lineno):
                self.assertLessEqual(node.end_lineno - node.lineno + 1, 40)
                self.assertFalse(node.args.vararg or node.args.kwarg or node.args.kwonlyargs or node.args.posonlyargs)

    def test_pythons_own_names(self):
        for name, node in nodes(ast.Name):
            with self.subTest(name, line=node.lineno):
                self.assertFalse(node.id.startswith("_"))
                if isinstance(node.ctx, ast.Load):
                    self.assertTrue(node.id in OWN_NAMES or not hasattr(builtins, node.id), node.id)
                else:
                    self.assertFalse(hasattr(builtins, node.id), node.id)

    def test_methods_of_pythons_own_values(self):
        theirs = {method for kind in (str, int, list, tuple, dict, set, bytes) for method in dir(kind)}
        for name, node in nodes(ast.Attribute):
            with self.subTest(name, line=node.lineno):
                self.assertTrue(node.attr in METHODS_OF_PYTHON or node.attr not in theirs, node.attr)

    def test_one_target_and_no_else_or_finally(self):
        for name, node in nodes((ast.Assign, ast.For, ast.While, ast.Try)):
            with self.subTest(name, line=node.lineno):
                self.assertEqual(len(getattr(node, "targets", ["one"])), 1)
                self.assertFalse(getattr(node, "finalbody", []))
                self.assertFalse(isinstance(node, (ast.For, ast.While)) and node.orelse)

    def test_comprehensions_and_braces_are_plain(self):
        for name, node in nodes((ast.ListComp, ast.FormattedValue)):
            with self.subTest(name, line=node.lineno):
                if isinstance(node, ast.ListComp):
                    self.assertEqual(len(node.generators), 1)
                    self.assertLessEqual(len(node.generators[0].ifs), 1)
                else:
                    self.assertIsInstance(node.value, ast.Name)
                    self.assertIsNone(node.format_spec)

    def test_is_stands_beside_none_true_and_false_alone(self):
        for name, node in nodes(ast.Compare):
            for sign, right in zip(node.ops, node.comparators):
                if isinstance(sign, (ast.Is, ast.IsNot)):
                    with self.subTest(name, line=node.lineno):
                        self.assertIsInstance(right, ast.Constant)

    def test_each_name_of_a_files_top_is_bound_once(self):
        for name, tree in trees():
            with self.subTest(name):
                self.assertEqual(sorted(names_of_top(tree)), sorted(set(names_of_top(tree))))

    def test_parameters_and_locals_are_called_like_nothing_else(self):
        for name, tree in trees():
            for node in ast.walk(tree):
                if isinstance(node, ast.FunctionDef):
                    for local in names_within(node):
                        with self.subTest(name, line=node.lineno, local=local):
                            self.assertNotIn(local, names_of_top(tree))
                            self.assertFalse(local.startswith("_") or hasattr(builtins, local))

    def test_each_name_is_drawn_from_the_file_that_defines_it(self):
        tops = {"onehue." + name.removesuffix(".py"): tree for name, tree in trees()}
        for name, node in nodes(ast.ImportFrom):
            with self.subTest(name, line=node.lineno):
                own = names_of_top(tops[node.module], False)
                self.assertTrue(all(drawn.name in own and drawn.asname is None for drawn in node.names))

    def test_no_two_files_draw_from_one_another(self):
        drawn = {"onehue." + path.stem: set() for path in files()}
        for name, node in nodes(ast.ImportFrom):
            drawn["onehue." + name.removesuffix(".py")].add(node.module)
        while drawn:
            ready = [module for module in drawn if not drawn[module] & set(drawn)]
            self.assertTrue(ready, drawn)
            drawn = {module: drawn[module] for module in drawn if module not in ready}


if __name__ == "__main__":
    unittest.main()
