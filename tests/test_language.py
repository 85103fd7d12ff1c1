"""The form of the package's files, as far as it can be seen without running them."""

import ast
import builtins
import pathlib
import re
import unittest

PACKAGE = pathlib.Path(__file__).resolve().parent.parent / "patternedits"

STATEMENTS = (ast.FunctionDef, ast.ClassDef, ast.ImportFrom, ast.Assign, ast.AugAssign, ast.If, ast.While, ast.For,
              ast.Return, ast.Break, ast.Continue, ast.Pass, ast.Raise, ast.Try, ast.Expr)
EXPRESSIONS = (ast.BoolOp, ast.BinOp, ast.UnaryOp, ast.Lambda, ast.IfExp, ast.Dict, ast.ListComp, ast.Compare, ast.Call,
               ast.JoinedStr, ast.FormattedValue, ast.Constant, ast.Attribute, ast.Subscript, ast.Name, ast.List,
               ast.Tuple, ast.Slice)
OWN_NAMES_OF_PYTHON = """len range enumerate zip min max sum abs sorted reversed int str bool list tuple dict set
    frozenset isinstance ord repr any all divmod Exception ValueError TypeError KeyError IndexError LookupError
    ZeroDivisionError ArithmeticError OverflowError RuntimeError NotImplementedError AttributeError
    StopIteration""".split()
METHODS = """append clear copy count endswith extend find get index insert isalnum isalpha isdigit islower isspace
    isupper items join keys ljust lower lstrip partition pop remove replace reverse rfind rjust rpartition rsplit
    rstrip setdefault split splitlines startswith strip update upper values zfill bit_length""".split()
WORDS_NOWHERE = re.compile(r"\b(?:type|typing|typing_extensions|enum|Enum|IntEnum|StrEnum|Flag|IntFlag|Generic|Protocol"
                           r"|ABC|ABCMeta|namedtuple|NamedTuple|TypedDict|TYPE_CHECKING|abstractmethod)\b"
                           r"|dataclass|overload|contextmanager")
NAMES_NOWHERE = "register mro elements open input version_info with_traceback add_note".split()
VALUES_NOWHERE = [name for kind in (str, int, list, dict, set, bytes) for name in dir(kind)]


def files():
    return sorted(PACKAGE.glob("*.py"))


def nodes(kinds):
    for path in files():
        for node in ast.walk(ast.parse(path.read_text())):
            if isinstance(node, kinds):
                yield f"{path.name}:{getattr(node, 'lineno', 0)}", node


def names_in(node):
    found = [getattr(node, field) for field in ("name", "id", "attr", "arg") if getattr(node, field, None)]
    return [name for name in found if isinstance(name, str)]


class FilesTest(unittest.TestCase):

    def test_package_holds_only_its_files(self):
        for path in PACKAGE.iterdir():
            if path.name != "__pycache__":
                self.assertRegex(path.name, r"\A(?:[a-z][a-z0-9_]*|__init__|__main__)\.py\Z")
                self.assertNotIn(path.stem, dir(builtins))

    def test_signs_and_sizes(self):
        for path in files():
            text = path.read_bytes().decode("ascii")
            self.assertRegex(text, r"\A[ -~\n]*\Z", path.name)
            self.assertLessEqual(len(text.splitlines()), 400, path.name)
            self.assertLessEqual(max(map(len, text.splitlines())), 120, path.name)
            self.assertIsNone(WORDS_NOWHERE.search(text), path.name)

    def test_functions_are_short(self):
        for where, node in nodes(ast.FunctionDef):
            self.assertLessEqual(node.end_lineno - node.lineno + 1, 40, where)


class NodesTest(unittest.TestCase):

    def test_statements_and_expressions(self):
        for where, node in nodes(ast.stmt):
            self.assertIsInstance(node, STATEMENTS, where)
        for where, node in nodes(ast.expr):
            self.assertIsInstance(node, EXPRESSIONS, where)
        for where, node in nodes((ast.Div, ast.Pow)):
            self.fail("an operator at " + where)

    def test_top_of_a_file(self):
        for path in files():
            for count, node in enumerate(ast.parse(path.read_text()).body):
                if isinstance(node, ast.Expr):
                    self.assertEqual((count, isinstance(node.value, ast.Constant)), (0, True), path.name)
                elif isinstance(node, ast.Assign):
                    self.assertEqual((len(node.targets), isinstance(node.targets[0], ast.Name)), (1, True), path.name)
                else:
                    self.assertIsInstance(node, (ast.ImportFrom, ast.FunctionDef, ast.ClassDef), path.name)

    def test_imports(self):
        for where, node in nodes(ast.ImportFrom):
            self.assertEqual((node.level, node.module.split(".")[0]), (0, "patternedits"), where)
            self.assertTrue(all(name.name != "*" and name.asname is None for name in node.names), where)

    def test_functions_and_classes(self):
        for where, node in nodes(ast.FunctionDef):
            given = node.args
            self.assertFalse(node.decorator_list or node.returns or given.vararg or given.kwarg or given.kwonlyargs
                             or given.posonlyargs or any(each.annotation for each in given.args), where)
        for where, node in nodes(ast.ClassDef):
            self.assertFalse(node.decorator_list or node.keywords or len(node.bases) > 1, where)
            self.assertTrue(all(isinstance(each, (ast.FunctionDef, ast.Pass)) for each in node.body), where)

    def test_small_forms(self):
        for where, node in nodes(ast.Assign):
            self.assertEqual(len(node.targets), 1, where)
        for where, node in nodes((ast.For, ast.While)):
            self.assertFalse(node.orelse, where)
        for where, node in nodes(ast.Try):
            self.assertFalse(node.finalbody or any(each.type is None for each in node.handlers), where)
        for where, node in nodes(ast.Compare):
            if any(isinstance(each, (ast.Is, ast.IsNot)) for each in node.ops):
                self.assertIsInstance(node.comparators[0], ast.Constant, where)
        for where, node in nodes(ast.Expr):
            self.assertIsInstance(node.value, (ast.Call, ast.Constant), where)
        for where, node in nodes(ast.Constant):
            self.assertIn(type(node.value), (int, str, bool, type(None)), where)


class NamesTest(unittest.TestCase):

    def test_names(self):
        for where, node in nodes((ast.FunctionDef, ast.ClassDef, ast.Name, ast.Attribute, ast.arg)):
            for name in names_in(node):
                self.assertRegex(name, r"\A(?:__init__|[A-Za-z][A-Za-z0-9_]*)\Z", where)
                self.assertNotIn(name, NAMES_NOWHERE, where)

    def test_names_of_pythons_own(self):
        for where, node in nodes(ast.Name):
            if node.id in dir(builtins):
                self.assertIn(node.id, OWN_NAMES_OF_PYTHON, where)
                self.assertIsInstance(node.ctx, ast.Load, where)
        for where, node in nodes((ast.arg, ast.FunctionDef, ast.ClassDef)):
            self.assertNotIn(names_in(node)[0], dir(builtins), where)

    def test_methods_and_values_of_objects(self):
        methods = {each.name for where, node in nodes(ast.ClassDef) for each in node.body if hasattr(each, "name")}
        values = {node.attr for where, node in nodes(ast.Attribute) if isinstance(node.ctx, ast.Store)}
        self.assertEqual(methods & values, set())
        self.assertEqual(values & set(VALUES_NOWHERE), set())
        for where, node in nodes(ast.Call):
            if isinstance(node.func, ast.Attribute):
                self.assertIn(node.func.attr, methods | set(METHODS), where)
