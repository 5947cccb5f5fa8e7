"""Holds the package's files to LANGUAGE.md, as far as its rules can be seen from a file's form.

What is not held here: what is promised of a run (L11), and of L15, L19, L23 and L28 whatever the tests
below don't name.
"""

import ast
import builtins
import functools
import pathlib
import re
import unittest

PACKAGE = pathlib.Path(__file__).resolve().parent.parent / "buildhall"

PLAIN_NODES = (
    "Module FunctionDef ClassDef arguments arg Lambda ImportFrom alias Assign AugAssign AnnAssign If While For Return "
    "Break Continue Pass Raise Try ExceptHandler Expr Name Load Store Constant List Tuple Dict Set Attribute Call "
    "keyword Subscript Slice IfExp ListComp comprehension JoinedStr FormattedValue BinOp BoolOp UnaryOp Compare "
    "Add Sub Mult FloorDiv Mod Pow LShift RShift BitOr BitXor BitAnd Invert And Or Not UAdd USub "
    "Eq NotEq Lt LtE Gt GtE Is IsNot In NotIn"
).split()
PYTHONS_NAMES = (
    "len range enumerate zip min max sum abs sorted reversed int str bool list tuple dict set frozenset isinstance "
    "ord repr any all divmod Exception ValueError TypeError KeyError IndexError LookupError ZeroDivisionError "
    "ArithmeticError OverflowError RuntimeError NotImplementedError AttributeError StopIteration"
).split()
PYTHONS_METHODS = (
    "append clear copy count endswith extend find get index insert isalnum isalpha isdigit islower isspace isupper "
    "items join keys ljust lower lstrip partition pop remove replace reverse rfind rjust rpartition rsplit rstrip "
    "setdefault split splitlines startswith strip update upper values zfill bit_length"
).split()
TWO_UNDERSCORES = ("__init__", "__eq__", "__repr__", "__str__", "__len__")
NO_WORDS = re.compile(
    r"\b(type|typing|typing_extensions|enum|Enum|IntEnum|StrEnum|Flag|IntFlag|Generic|Protocol|ABC|ABCMeta|namedtuple"
    r"|NamedTuple|TypedDict|TYPE_CHECKING|abstractmethod)\b|dataclass|overload|contextmanager"
)


def files():
    return sorted(path for path in PACKAGE.rglob("*") if "__pycache__" not in path.parts)


@functools.lru_cache(maxsize=None)
def trees():
    return [(path.name, ast.parse(path.read_text(encoding="utf-8"))) for path in files() if path.is_file()]


@functools.lru_cache(maxsize=None)
def nodes(kind):
    return [(name, node) for name, tree in trees() for node in ast.walk(tree) if isinstance(node, kind)]


class Files(unittest.TestCase):
    def test_there_are_files_of_plain_names_alone(self):
        self.assertIn("__init__.py", [path.name for path in files()])
        for path in files():
            self.assertRegex(path.name, r"^([a-z][a-z0-9_]*|__init__|__main__)\.py$")

    def test_signs_and_sizes(self):
        for path in files():
            text = path.read_bytes().decode("ascii")
            self.assertEqual([sign for sign in text if sign != "\n" and not " " <= sign <= "~"], [], path.name)
            self.assertLessEqual(len(text.splitlines()), 400, path.name)
            self.assertLessEqual(max([len(row) for row in text.splitlines()], default=0), 120, path.name)
            self.assertIsNone(NO_WORDS.search(text), path.name)


class Forms(unittest.TestCase):
    def test_nodes(self):
        for name, node in nodes(ast.AST):
            self.assertIn(type(node).__name__, PLAIN_NODES, (name, getattr(node, "lineno", 0)))

    def test_functions(self):
        for name, node in nodes(ast.FunctionDef):
            self.assertLessEqual(node.end_lineno - node.lineno + 1, 40, (name, node.name))
            self.assertEqual(node.decorator_list, [], (name, node.name))
            form = node.args
            self.assertFalse(form.vararg or form.kwarg or form.kwonlyargs or form.posonlyargs, (name, node.name))

    def test_classes(self):
        for name, node in nodes(ast.ClassDef):
            self.assertLessEqual(len(node.bases), 1, (name, node.name))
            self.assertFalse(node.decorator_list or node.keywords, (name, node.name))
            for row in node.body:
                self.assertIsInstance(row, (ast.FunctionDef, ast.Pass), (name, node.name))

    def test_statements(self):
        for name, node in nodes((ast.Assign, ast.Try, ast.For, ast.While)):
            self.assertLessEqual(len(getattr(node, "targets", [])), 1, (name, node.lineno))
            self.assertFalse(getattr(node, "finalbody", []), (name, node.lineno))
            self.assertFalse(isinstance(node, (ast.For, ast.While)) and node.orelse, (name, node.lineno))

    def test_texts_and_numbers(self):
        for name, node in nodes(ast.Constant):
            self.assertTrue(node.value is None or isinstance(node.value, (int, str)), (name, node.lineno))
            self.assertFalse(isinstance(node.value, str) and chr(37) in node.value, (name, node.lineno))


class Names(unittest.TestCase):
    def test_imports(self):
        for name, tree in trees():
            for node in ast.walk(tree):
                if isinstance(node, ast.ImportFrom):
                    self.assertIn(node, tree.body, name)
                    self.assertEqual(node.level, 0, name)
                    self.assertRegex(node.module, r"^buildhall\.[a-z_]+$")
                    self.assertEqual([part.name for part in node.names if part.name == "*"], [], name)

    def test_pythons_own_names(self):
        for name, node in nodes(ast.Name):
            if hasattr(builtins, node.id):
                self.assertIn(node.id, PYTHONS_NAMES, (name, node.lineno))
                self.assertIsInstance(node.ctx, ast.Load, (name, node.lineno))
            self.assertFalse(node.id.startswith("_"), (name, node.lineno))

    def test_parameters_and_defs(self):
        for name, node in nodes((ast.arg, ast.FunctionDef, ast.ClassDef)):
            word = node.arg if isinstance(node, ast.arg) else node.name
            self.assertTrue(word in TWO_UNDERSCORES or not word.startswith("_"), (name, word))
            self.assertFalse(isinstance(node, ast.arg) and hasattr(builtins, word), (name, word))

    def test_methods(self):
        own = [node.name for name, node in nodes(ast.FunctionDef)]
        for name, node in nodes(ast.Call):
            if isinstance(node.func, ast.Attribute):
                self.assertIn(node.func.attr, PYTHONS_METHODS + own, (name, node.lineno))


PLAIN_VALUES = (ast.Constant, ast.Tuple, ast.List, ast.Dict, ast.Name, ast.Load, ast.UnaryOp, ast.USub)
CHANGING = ("append", "clear", "extend", "insert", "pop", "remove", "reverse", "setdefault", "update")
NO_VALUES = CHANGING + ("items", "keys", "values", "sort", "args", "encode", "format")
WALKED = ("zip", "enumerate", "reversed", "range")
WALKERS = ("list", "tuple", "dict", "sorted", "sum", "any", "all", "enumerate", "zip", "min", "max")
KEYWORDS = {"sorted": ("key", "reverse"), "min": ("key", "default"), "max": ("key", "default"), "sum": ("start",),
            "enumerate": ("start",), "zip": ("strict",)}
NO_NAMES_AT_ALL = "register mro elements open input version_info with_traceback add_note".split()
NO_NAMES_OF_THESE = (
    "attrgetter breakpoint builtins compile copyright credits delattr dir eval exec exit gc getattr globals hasattr "
    "help id importlib license locals methodcaller os quit setattr super type vars sys __name__"
).split()


@functools.lru_cache(maxsize=None)
def own_classes():
    return {node.name: name for name, node in nodes(ast.ClassDef)}


@functools.lru_cache(maxsize=None)
def own_methods():
    return {row.name for name, node in nodes(ast.ClassDef) for row in node.body if isinstance(row, ast.FunctionDef)}


@functools.lru_cache(maxsize=None)
def own_values():
    return {
        node.attr for name, node in nodes(ast.Attribute)
        if isinstance(node.ctx, ast.Store)
    }


def parents(tree):
    return {below: node for node in ast.walk(tree) for below in ast.iter_child_nodes(node)}


def called(node):
    return node.func.id if isinstance(node, ast.Call) and isinstance(node.func, ast.Name) else None


class TopsOfFiles(unittest.TestCase):
    def test_rows(self):
        for name, tree in trees():
            for at, row in enumerate(tree.body):
                text = at == 0 and isinstance(row, ast.Expr) and isinstance(row.value, ast.Constant)
                self.assertTrue(
                    text or isinstance(row, (ast.ImportFrom, ast.FunctionDef, ast.ClassDef, ast.Assign)), (name, row)
                )

    def test_imports_stand_at_the_top(self):
        for name, tree in trees():
            rows = tree.body[1:] if isinstance(tree.body[0], ast.Expr) else tree.body
            kinds = [isinstance(row, ast.ImportFrom) for row in rows]
            self.assertEqual(kinds, sorted(kinds, reverse=True), name)

    def test_values_are_plain_and_hold_no_names_but_of_functions_above(self):
        for name, tree in trees():
            above = []
            for row in tree.body:
                if isinstance(row, ast.FunctionDef):
                    above.append(row.name)
                if isinstance(row, ast.Assign):
                    for node in ast.walk(row.value):
                        self.assertIsInstance(node, PLAIN_VALUES, (name, row.lineno))
                        if isinstance(node, ast.Name):
                            self.assertIn(node.id, above, (name, row.lineno))
                    if isinstance(row.value, (ast.List, ast.Dict)):
                        within = [node for node in ast.walk(row.value) if isinstance(node, (ast.List, ast.Dict))]
                        self.assertEqual(len(within), 1, (name, row.lineno))

    def test_each_name_once(self):
        for name, tree in trees():
            names = []
            for row in tree.body:
                if isinstance(row, ast.ImportFrom):
                    names.extend([part.asname or part.name for part in row.names])
                elif isinstance(row, (ast.FunctionDef, ast.ClassDef)):
                    names.append(row.name)
                elif isinstance(row, ast.Assign):
                    names.append(row.targets[0].id)
            self.assertEqual(len(names), len(set(names)), name)

    def test_classes_stand_at_the_top(self):
        for name, tree in trees():
            inner = [node for node in ast.walk(tree) if isinstance(node, ast.ClassDef) and node not in tree.body]
            self.assertEqual(inner, [], name)

    def test_lists_and_dicts_of_the_top_are_only_read(self):
        for name, tree in trees():
            kept = [
                row.targets[0].id for row in tree.body
                if isinstance(row, ast.Assign) and isinstance(row.value, (ast.List, ast.Dict))
            ]
            above = parents(tree)
            for node in ast.walk(tree):
                if isinstance(node, ast.Name) and node.id in kept and isinstance(node.ctx, ast.Load):
                    place = (name, node.lineno)
                    around = above[node]
                    self.assertIsInstance(
                        around, (ast.Subscript, ast.Compare, ast.For, ast.comprehension, ast.Attribute, ast.Call), place
                    )
                    if isinstance(around, ast.Subscript):
                        self.assertIsInstance(around.ctx, ast.Load, place)
                    if isinstance(around, ast.Attribute):
                        self.assertIn(around.attr, ("get", "items", "keys", "values", "index", "count"), place)
                    if isinstance(around, ast.Call):
                        self.assertIn(called(around), WALKERS + ("len",), place)

    def test_imports_come_from_where_a_name_is_defined_and_never_in_a_round(self):
        defined = {}
        draws = {}
        for name, tree in trees():
            own = [row.name for row in tree.body if isinstance(row, (ast.FunctionDef, ast.ClassDef))]
            own.extend([row.targets[0].id for row in tree.body if isinstance(row, ast.Assign)])
            defined[name[:-3]] = own
            draws[name[:-3]] = [row for row in tree.body if isinstance(row, ast.ImportFrom)]
        for name, rows in draws.items():
            for row in rows:
                for part in row.names:
                    self.assertIn(part.name, defined[row.module.split(".")[1]], name)
                    self.assertIsNone(part.asname, name)
        left = {name: {row.module.split(".")[1] for row in rows} for name, rows in draws.items()}
        while left:
            free = [name for name in left if not left[name] & set(left)]
            self.assertNotEqual(free, [], left)
            left = {name: left[name] for name in left if name not in free}


class Locals(unittest.TestCase):
    def test_no_local_is_called_like_a_name_of_the_files_top(self):
        for name, tree in trees():
            taken = []
            for row in tree.body:
                if isinstance(row, ast.ImportFrom):
                    taken.extend([part.name for part in row.names])
                elif isinstance(row, (ast.ClassDef, ast.FunctionDef)):
                    taken.append(row.name)
                elif isinstance(row, ast.Assign):
                    taken.append(row.targets[0].id)
            for node in ast.walk(tree):
                if isinstance(node, ast.arg):
                    self.assertNotIn(node.arg, taken, (name, node.lineno))
                if isinstance(node, ast.Name) and isinstance(node.ctx, ast.Store) and node.col_offset > 0:
                    self.assertNotIn(node.id, taken, (name, node.lineno))
                if isinstance(node, ast.ExceptHandler) and node.name is not None:
                    self.assertNotIn(node.name, taken, (name, node.lineno))

    def test_names_that_are_not_used(self):
        for name, node in nodes((ast.Name, ast.arg, ast.Attribute, ast.FunctionDef, ast.keyword)):
            word = {ast.Name: "id", ast.Attribute: "attr", ast.FunctionDef: "name"}.get(type(node), "arg")
            self.assertNotIn(getattr(node, word), NO_NAMES_AT_ALL, (name, word))
            if not isinstance(node, ast.Attribute):
                self.assertNotIn(getattr(node, word), NO_NAMES_OF_THESE, (name, word))

    def test_no_annotations(self):
        for name, node in nodes((ast.FunctionDef, ast.arg, ast.AnnAssign)):
            self.assertNotIsInstance(node, ast.AnnAssign, name)
            self.assertIsNone(node.returns if isinstance(node, ast.FunctionDef) else node.annotation, name)

    def test_defaults_are_plain(self):
        for name, node in nodes(ast.FunctionDef):
            for default in node.args.defaults:
                self.assertIsInstance(default, ast.Constant, (name, node.name))

    def test_one_plain_target(self):
        for name, node in nodes(ast.Assign):
            self.assertIsInstance(node.targets[0], (ast.Name, ast.Attribute, ast.Subscript), (name, node.lineno))


class Classes(unittest.TestCase):
    def test_no_name_is_a_method_and_a_value(self):
        self.assertEqual(sorted(own_methods() & own_values()), [])

    def test_methods_stand_once(self):
        for name, node in nodes(ast.ClassDef):
            methods = [row.name for row in node.body if isinstance(row, ast.FunctionDef)]
            self.assertEqual(len(methods), len(set(methods)), node.name)

    def test_bases_are_the_packages_own_or_errors(self):
        for name, node in nodes(ast.ClassDef):
            for base in node.bases:
                self.assertIn(base.id, list(own_classes()) + ["ValueError", "Exception"], node.name)

    def test_names_of_methods_and_values(self):
        taken = set()
        for value in ("", 0, [], {}, set(), b""):
            taken.update(word for word in dir(value) if not word.startswith("_"))
        for word in own_methods() - set(TWO_UNDERSCORES):
            self.assertTrue(word not in taken or word in PYTHONS_METHODS + ["add", "discard"], word)
        for word in own_values():
            self.assertNotIn(word, taken)
            self.assertNotIn(word, NO_VALUES)

    def test_classes_are_called_or_asked_for_alone(self):
        for name, tree in trees():
            above = parents(tree)
            for node in ast.walk(tree):
                if not isinstance(node, ast.Name) or node.id not in own_classes():
                    continue
                around = above[node]
                while isinstance(around, ast.Tuple):
                    around = above[around]
                good = isinstance(around, (ast.ClassDef, ast.ExceptHandler, ast.Raise))
                good = good or isinstance(around, ast.Call) and around.func == node
                good = good or called(around) == "isinstance" and around.args[0] != node
                good = good or isinstance(around, ast.Attribute) and around.attr == "__init__"
                self.assertTrue(good, (name, node.lineno))

    def test_values_are_given_through_local_names(self):
        for name, node in nodes(ast.Attribute):
            if isinstance(node.ctx, ast.Store):
                root = node.value
                while isinstance(root, (ast.Attribute, ast.Subscript)):
                    root = root.value
                self.assertIsInstance(root, ast.Name, (name, node.lineno))
                self.assertNotIn(root.id, own_classes(), (name, node.lineno))

    def test_makers_give_back_nothing(self):
        for name, node in nodes(ast.FunctionDef):
            if node.name == "__init__":
                self.assertEqual([row for row in ast.walk(node) if isinstance(row, ast.Return)], [], name)


class Rows(unittest.TestCase):
    def test_errors_are_taken_and_raised_by_own_names(self):
        own = own_classes()
        for name, node in nodes((ast.ExceptHandler, ast.Raise)):
            place = (name, node.lineno)
            if isinstance(node, ast.ExceptHandler):
                kinds = node.type.elts if isinstance(node.type, ast.Tuple) else [node.type]
                for kind in kinds:
                    self.assertIn(kind.id, list(own) + ["KeyError", "ZeroDivisionError", "StopIteration"], place)
            else:
                self.assertIsInstance(node.exc, ast.Call, place)
                self.assertIn(node.exc.func.id, own, place)
                self.assertTrue(node.cause is None or isinstance(node.cause, (ast.Constant, ast.Name)), place)

    def test_is_stands_beside_none_true_and_false(self):
        for name, node in nodes(ast.Compare):
            for op, other in zip(node.ops, node.comparators):
                if isinstance(op, (ast.Is, ast.IsNot)):
                    self.assertIsInstance(other, ast.Constant, (name, node.lineno))
                    self.assertIn(other.value, (None, True, False), (name, node.lineno))

    def test_keywords(self):
        for name, node in nodes(ast.Call):
            words = [part.arg for part in node.keywords]
            if isinstance(node.func, ast.Name) and hasattr(builtins, node.func.id):
                for word in words:
                    self.assertIn(word, KEYWORDS.get(node.func.id, ()), (name, node.lineno))
            elif isinstance(node.func, ast.Attribute):
                self.assertFalse(words and node.func.attr in PYTHONS_METHODS, (name, node.lineno))

    def test_pythons_own_are_called_not_kept(self):
        for name, tree in trees():
            above = parents(tree)
            for node in ast.walk(tree):
                if isinstance(node, ast.Name) and hasattr(builtins, node.id):
                    around = above[node]
                    while isinstance(around, ast.Tuple):
                        around = above[around]
                    good = isinstance(around, ast.Call) and (around.func == node or called(around) == "isinstance")
                    good = good or isinstance(around, (ast.ClassDef, ast.ExceptHandler, ast.Raise, ast.keyword))
                    self.assertTrue(good, (name, node.lineno, node.id))

    def test_isinstance_is_asked_of_these_alone(self):
        good = ["int", "str", "bool", "list", "tuple", "dict"] + list(own_classes())
        for name, node in nodes(ast.Call):
            if called(node) == "isinstance":
                kinds = node.args[1].elts if isinstance(node.args[1], ast.Tuple) else [node.args[1]]
                for kind in kinds:
                    self.assertIn(kind.id, good, (name, node.lineno))

    def test_walked_on_the_spot(self):
        for name, tree in trees():
            above = parents(tree)
            for node in ast.walk(tree):
                view = isinstance(node, ast.Call) and isinstance(node.func, ast.Attribute) and not node.args
                view = view and node.func.attr in ("items", "keys", "values")
                if not view and called(node) not in WALKED:
                    continue
                around = above[node]
                good = isinstance(around, (ast.For, ast.comprehension)) and around.iter == node
                good = good or called(around) in WALKERS and around.args[0] == node
                alone = len(around.args) == 1 and not around.keywords if isinstance(around, ast.Call) else True
                good = good and (alone or called(around) not in ("min", "max"))
                good = good or called(around) == "zip"
                self.assertTrue(good, (name, node.lineno))

    def test_what_a_loop_walks_is_not_changed_in_it(self):
        for name, node in nodes(ast.For):
            walked = [ast.dump(part) for part in ast.walk(node.iter) if isinstance(part, (ast.Name, ast.Attribute))]
            if called(node.iter) in ("list", "sorted", "range"):
                walked = []
            for row in node.body:
                for part in ast.walk(row):
                    if isinstance(part, ast.Call) and isinstance(part.func, ast.Attribute):
                        changed = part.func.attr in CHANGING and ast.dump(part.func.value) in walked
                        self.assertFalse(changed, (name, part.lineno))
                    if isinstance(part, ast.Subscript) and isinstance(part.ctx, ast.Store):
                        self.assertNotIn(ast.dump(part.value), walked, (name, part.lineno))

    def test_sets_are_asked_on_the_spot(self):
        for name, tree in trees():
            above = parents(tree)
            for node in ast.walk(tree):
                if isinstance(node, ast.Set) or called(node) in ("set", "frozenset"):
                    around = above[node]
                    while isinstance(around, ast.BinOp):
                        around = above[around]
                    good = isinstance(around, ast.Compare) or called(around) in ("sorted", "len")
                    self.assertTrue(good, (name, node.lineno))

    def test_methods_are_called_where_they_stand(self):
        own = own_methods() - set(TWO_UNDERSCORES)
        for name, tree in trees():
            above = parents(tree)
            for node in ast.walk(tree):
                if isinstance(node, ast.Attribute) and node.attr in own | set(PYTHONS_METHODS):
                    around = above[node]
                    self.assertTrue(isinstance(around, ast.Call) and around.func == node, (name, node.lineno))

    def test_powers_and_texts_in_braces(self):
        for name, node in nodes((ast.BinOp, ast.FormattedValue, ast.ListComp)):
            place = (name, node.lineno)
            if isinstance(node, ast.BinOp) and isinstance(node.op, ast.Pow):
                self.assertTrue(isinstance(node.right, ast.Constant) and 0 <= node.right.value <= 64, place)
            if isinstance(node, ast.FormattedValue):
                self.assertIsInstance(node.value, ast.Name, place)
                self.assertIsNone(node.format_spec, place)
                self.assertIn(node.conversion, (-1, ord("r")), place)
            if isinstance(node, ast.ListComp):
                self.assertEqual(len(node.generators), 1, place)
                self.assertLessEqual(len(node.generators[0].ifs), 1, place)

    def test_escapes(self):
        for path in files():
            for sign in re.findall(r"\\(.)", path.read_text(encoding="ascii")):
                self.assertIn(sign, "nt\\'\"", path.name)


if __name__ == "__main__":
    unittest.main()
