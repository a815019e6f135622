"""The package's files keep to a small part of Python, and so use no clock, chance or files."""

import ast
import builtins
import re
import unittest
from pathlib import Path

PACKAGE = Path(__file__).resolve().parent.parent / "onehue"

OWN_NAMES = set(
    """
    len range enumerate zip min max sum abs sorted reversed int str bool list tuple dict set frozenset isinstance
    ord repr any all divmod Exception ValueError TypeError KeyError IndexError LookupError ZeroDivisionError
    ArithmeticError OverflowError RuntimeError NotImplementedError AttributeError StopIteration
    """.split()
)
METHODS_OF_PYTHON = set(
    """
    append clear copy count endswith extend find get index insert isalnum isalpha isdigit islower isspace isupper
    items join keys ljust lower lstrip partition pop remove replace reverse rfind rjust rpartition rsplit rstrip
    setdefault split splitlines startswith strip update upper values zfill bit_length
    """.split()
)
STATEMENTS = (
    ast.FunctionDef, ast.ClassDef, ast.ImportFrom, ast.Assign, ast.AugAssign, ast.If, ast.While, ast.For, ast.Return,
    ast.Break, ast.Continue, ast.Pass, ast.Raise, ast.Try, ast.Expr,
)
EXPRESSIONS = (
    ast.Constant, ast.Name, ast.Attribute, ast.Subscript, ast.Slice, ast.Call, ast.BinOp, ast.UnaryOp, ast.BoolOp,
    ast.Compare, ast.IfExp, ast.List, ast.Tuple, ast.Dict, ast.Set, ast.ListComp, ast.Lambda, ast.JoinedStr,
    ast.FormattedValue,
)
WORDS_NOWHERE = re.compile(
    r"\b(type|typing|typing_extensions|enum|Enum|IntEnum|StrEnum|Flag|IntFlag|Generic|Protocol|ABC|ABCMeta|namedtuple"
    r"|NamedTuple|TypedDict|TYPE_CHECKING|abstractmethod)\b|dataclass|overload|contextmanager"
)


def files():
    return sorted(path for path in PACKAGE.rglob("*") if "__pycache__" not in path.parts)


def trees():
    return [(path.name, ast.parse(path.read_text("utf-8"))) for path in files()]


def nodes(kind):
    return [(name, node) for name, tree in trees() for node in ast.walk(tree) if isinstance(node, kind)]


class TestForm(unittest.TestCase):
    def test_the_folder_holds_plain_files_alone(self):
        self.assertTrue((PACKAGE / "__init__.py").is_file())
        for path in files():
            self.assertRegex(path.name, r"\A(__init__|[a-z][a-z0-9_]*)\.py\Z")

    def test_signs_rows_and_words(self):
        for path in files():
            text = path.read_text("utf-8")
            rows = text.split("\n")
            with self.subTest(path.name):
                self.assertRegex(text, r"\A[ -~\n]*\Z")
                self.assertLessEqual(len(rows), 400)
                self.assertLessEqual(max(len(row) for row in rows), 120)
                self.assertIsNone(WORDS_NOWHERE.search(text))

    def test_only_the_packages_own_files_are_drawn_from(self):
        for name, node in nodes((ast.Import, ast.ImportFrom)):
            with self.subTest(name, line=node.lineno):
                self.assertIsInstance(node, ast.ImportFrom)
                self.assertEqual(node.level, 0)
                self.assertTrue(node.module.startswith("onehue."))

    def test_statements_and_expressions(self):
        for name, node in nodes((ast.stmt, ast.expr)):
            with self.subTest(name, line=node.lineno):
                self.assertIsInstance(node, STATEMENTS + EXPRESSIONS)
                self.assertNotIsInstance(getattr(node, "op", None), (ast.Div, ast.MatMult))
                self.assertFalse(getattr(node, "decorator_list", []))

    def test_an_expression_by_itself_is_a_call_or_a_files_docstring(self):
        docstrings = [tree.body[0].lineno for name, tree in trees()]
        self.assertEqual(docstrings, [1] * len(files()))
        for name, node in nodes(ast.Expr):
            with self.subTest(name, line=node.lineno):
                self.assertTrue(isinstance(node.value, ast.Call) or node.lineno == 1)

    def test_plain_values(self):
        for name, node in nodes(ast.Constant):
            with self.subTest(name, line=node.lineno):
                self.assertIn(type(node.value), (int, str, bool, type(None)))

    def test_functions_are_small_and_plain(self):
        for name, node in nodes(ast.FunctionDef):
            with self.subTest(name, line=node.lineno):
                self.assertLessEqual(node.end_lineno - node.lineno + 1, 40)
                self.assertFalse(node.args.vararg or node.args.kwarg or node.args.kwonlyargs or node.args.posonlyargs)

    def test_pythons_own_names(self):
        for name, node in nodes(ast.Name):
            with self.subTest(name, line=node.lineno):
                self.assertFalse(node.id.startswith("_"))
                if isinstance(node.ctx, ast.Load):
                    self.assertTrue(node.id in OWN_NAMES or not hasattr(builtins, node.id), node.id)
                else:
                    self.assertFalse(hasattr(builtins, node.id), node.id)

    def test_methods_of_pythons_own_values(self):
        theirs = {method for kind in (str, int, list, tuple, dict, set, bytes) for method in dir(kind)}
        for name, node in nodes(ast.Attribute):
            with self.subTest(name, line=node.lineno):
                self.assertTrue(node.attr in METHODS_OF_PYTHON or node.attr not in theirs, node.attr)


if __name__ == "__main__":
    unittest.main()
