"""Holds the package's files to a part of LANGUAGE.md: files, signs, sizes, forms and names.

The other rules (L13, L15, L18 to L24 among them) are not held here.
"""

import ast
import builtins
import pathlib
import re
import unittest

PACKAGE = pathlib.Path(__file__).resolve().parent.parent / "buildhall"

PLAIN_NODES = (
    "Module FunctionDef ClassDef arguments arg Lambda ImportFrom alias Assign AugAssign AnnAssign If While For Return "
    "Break Continue Pass Raise Try ExceptHandler Expr Name Load Store Constant List Tuple Dict Set Attribute Call "
    "keyword Subscript Slice IfExp ListComp comprehension JoinedStr FormattedValue BinOp BoolOp UnaryOp Compare "
    "Add Sub Mult FloorDiv Mod Pow LShift RShift BitOr BitXor BitAnd Invert And Or Not UAdd USub "
    "Eq NotEq Lt LtE Gt GtE Is IsNot In NotIn"
).split()
PYTHONS_NAMES = (
    "len range enumerate zip min max sum abs sorted reversed int str bool list tuple dict set frozenset isinstance "
    "ord repr any all divmod Exception ValueError TypeError KeyError IndexError LookupError ZeroDivisionError "
    "ArithmeticError OverflowError RuntimeError NotImplementedError AttributeError StopIteration"
).split()
PYTHONS_METHODS = (
    "append clear copy count endswith extend find get index insert isalnum isalpha isdigit islower isspace isupper "
    "items join keys ljust lower lstrip partition pop remove replace reverse rfind rjust rpartition rsplit rstrip "
    "setdefault split splitlines startswith strip update upper values zfill bit_length"
).split()
TWO_UNDERSCORES = ("__init__", "__eq__", "__repr__", "__str__", "__len__")
NO_WORDS = re.compile(
    r"\b(type|typing|typing_extensions|enum|Enum|IntEnum|StrEnum|Flag|IntFlag|Generic|Protocol|ABC|ABCMeta|namedtuple"
    r"|NamedTuple|TypedDict|TYPE_CHECKING|abstractmethod)\b|dataclass|overload|contextmanager"
)


def files():
    return sorted(path for path in PACKAGE.rglob("*") if "__pycache__" not in path.parts)


def trees():
    return [(path.name, ast.parse(path.read_text(encoding="utf-8"))) for path in files() if path.is_file()]


def nodes(kind):
    return [(name, node) for name, tree in trees() for node in ast.walk(tree) if isinstance(node, kind)]


class Files(unittest.TestCase):
    def test_there_are_files_of_plain_names_alone(self):
        self.assertIn("__init__.py", [path.name for path in files()])
        for path in files():
            self.assertRegex(path.name, r"^([a-z][a-z0-9_]*|__init__|__main__)\.py$")

    def test_signs_and_sizes(self):
        for path in files():
            text = path.read_bytes().decode("ascii")
            self.assertEqual([sign for sign in text if sign != "\n" and not " " <= sign <= "~"], [], path.name)
            self.assertLessEqual(len(text.splitlines()), 400, path.name)
            self.assertLessEqual(max([len(row) for row in text.splitlines()], default=0), 120, path.name)
            self.assertIsNone(NO_WORDS.search(text), path.name)


class Forms(unittest.TestCase):
    def test_nodes(self):
        for name, node in nodes(ast.AST):
            self.assertIn(type(node).__name__, PLAIN_NODES, (name, getattr(node, "lineno", 0)))

    def test_functions(self):
        for name, node in nodes(ast.FunctionDef):
            self.assertLessEqual(node.end_lineno - node.lineno + 1, 40, (name, node.name))
            self.assertEqual(node.decorator_list, [], (name, node.name))
            form = node.args
            self.assertFalse(form.vararg or form.kwarg or form.kwonlyargs or form.posonlyargs, (name, node.name))

    def test_classes(self):
        for name, node in nodes(ast.ClassDef):
            self.assertLessEqual(len(node.bases), 1, (name, node.name))
            self.assertFalse(node.decorator_list or node.keywords, (name, node.name))
            for row in node.body:
                self.assertIsInstance(row, (ast.FunctionDef, ast.Pass), (name, node.name))

    def test_statements(self):
        for name, node in nodes((ast.Assign, ast.Try, ast.For, ast.While)):
            self.assertLessEqual(len(getattr(node, "targets", [])), 1, (name, node.lineno))
            self.assertFalse(getattr(node, "finalbody", []), (name, node.lineno))
            self.assertFalse(isinstance(node, (ast.For, ast.While)) and node.orelse, (name, node.lineno))

    def test_texts_and_numbers(self):
        for name, node in nodes(ast.Constant):
            self.assertTrue(node.value is None or isinstance(node.value, (int, str)), (name, node.lineno))
            self.assertFalse(isinstance(node.value, str) and chr(37) in node.value, (name, node.lineno))


class Names(unittest.TestCase):
    def test_imports(self):
        for name, tree in trees():
            for node in ast.walk(tree):
                if isinstance(node, ast.ImportFrom):
                    self.assertIn(node, tree.body, name)
                    self.assertEqual(node.level, 0, name)
                    self.assertRegex(node.module, r"^buildhall\.[a-z_]+$")
                    self.assertEqual([part.name for part in node.names if part.name == "*"], [], name)

    def test_pythons_own_names(self):
        for name, node in nodes(ast.Name):
            if hasattr(builtins, node.id):
                self.assertIn(node.id, PYTHONS_NAMES, (name, node.lineno))
                self.assertIsInstance(node.ctx, ast.Load, (name, node.lineno))
            self.assertFalse(node.id.startswith("_"), (name, node.lineno))

    def test_parameters_and_defs(self):
        for name, node in nodes((ast.arg, ast.FunctionDef, ast.ClassDef)):
            word = node.arg if isinstance(node, ast.arg) else node.name
            self.assertTrue(word in TWO_UNDERSCORES or not word.startswith("_"), (name, word))
            self.assertFalse(isinstance(node, ast.arg) and hasattr(builtins, word), (name, word))

    def test_methods(self):
        own = [node.name for name, node in nodes(ast.FunctionDef)]
        for name, node in nodes(ast.Call):
            if isinstance(node.func, ast.Attribute):
                self.assertIn(node.func.attr, PYTHONS_METHODS + own, (name, node.lineno))


if __name__ == "__main__":
    unittest.main()
