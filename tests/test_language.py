"""The rules of shared/LANGUAGE.md that can be read off the package's files one by one."""

import ast
import builtins
import pathlib
import re
import unittest

PACKAGE = pathlib.Path(__file__).resolve().parent.parent / "tilechain"

STATEMENTS = (
    ast.Assign, ast.AugAssign, ast.If, ast.While, ast.For, ast.Return, ast.Break, ast.Continue, ast.Pass,
    ast.Raise, ast.Try, ast.Expr, ast.FunctionDef, ast.ClassDef, ast.ImportFrom,
)
EXPRESSIONS = (
    ast.Constant, ast.Name, ast.List, ast.Tuple, ast.Dict, ast.BinOp, ast.UnaryOp, ast.BoolOp, ast.Compare,
    ast.IfExp, ast.Call, ast.Attribute, ast.Subscript, ast.Slice, ast.ListComp, ast.JoinedStr,
    ast.FormattedValue, ast.Lambda,
)
OWN_NAMES_OF_PYTHON = set(
    "len range enumerate zip min max sum abs sorted reversed int str bool list tuple dict set frozenset isinstance"
    " ord repr any all divmod Exception ValueError TypeError KeyError IndexError LookupError ZeroDivisionError"
    " ArithmeticError OverflowError RuntimeError NotImplementedError AttributeError StopIteration".split()
)
METHODS = set(
    "append clear copy count endswith extend find get index insert isalnum isalpha isdigit islower isspace isupper"
    " items join keys ljust lower lstrip partition pop remove replace reverse rfind rjust rpartition rsplit rstrip"
    " setdefault split splitlines startswith strip update upper values zfill bit_length".split()
)
WORDS_NOWHERE = re.compile(
    r"\b(type|typing|typing_extensions|enum|Enum|IntEnum|StrEnum|Flag|IntFlag|Generic|Protocol|ABC|ABCMeta"
    r"|namedtuple|NamedTuple|TypedDict|TYPE_CHECKING|abstractmethod)\b|dataclass|overload|contextmanager"
)
NAMES_NOWHERE = set(
    "register mro elements open input version_info with_traceback add_note attrgetter breakpoint builtins compile"
    " copyright credits delattr dir eval exec exit gc getattr globals hasattr help id importlib license locals"
    " methodcaller os quit setattr super type vars sys format format_map".split()
)


def bound_names(tree):
    for node in ast.walk(tree):
        if isinstance(node, (ast.FunctionDef, ast.ClassDef)):
            yield node.name
        elif isinstance(node, ast.arg):
            yield node.arg
        elif isinstance(node, ast.Name) and isinstance(node.ctx, ast.Store):
            yield node.id


class LanguageTest(unittest.TestCase):
    def setUp(self):
        self.files = {}
        for path in sorted(PACKAGE.rglob("*.py")):
            text = path.read_bytes().decode("ascii")
            self.files[path.name] = (text, ast.parse(text))
        self.methods = set(METHODS)
        for node in self.nodes(ast.ClassDef):
            self.methods.update(part.name for part in node.body if isinstance(part, ast.FunctionDef))

    def nodes(self, kind):
        return [node for text, tree in self.files.values() for node in ast.walk(tree) if isinstance(node, kind)]

    def test_files(self):
        self.assertIn("__init__.py", self.files)
        for path in PACKAGE.rglob("*"):
            if "__pycache__" not in path.parts:
                self.assertRegex(path.name, r"^(__init__|__main__|[a-z][a-z0-9_]*)\.py$")

    def test_signs_and_sizes(self):
        for name, (text, tree) in self.files.items():
            self.assertRegex(text, r"^[ -~\n]*\Z", name)
            rows = text.split("\n")
            self.assertLessEqual(len(rows), 400, name)
            self.assertLessEqual(max(len(row) for row in rows), 120, name)
            self.assertIsNone(WORDS_NOWHERE.search(text), name)
        for node in self.nodes(ast.FunctionDef):
            self.assertLessEqual(node.end_lineno - node.lineno + 1, 40, node.name)

    def test_forms(self):
        for node in self.nodes(ast.stmt):
            self.assertIsInstance(node, STATEMENTS)
        for node in self.nodes(ast.expr):
            self.assertIsInstance(node, EXPRESSIONS)
        for node in self.nodes((ast.FunctionDef, ast.ClassDef)):
            self.assertEqual(node.decorator_list, [])
        for node in self.nodes(ast.Assign):
            self.assertEqual(len(node.targets), 1)
        for node in self.nodes((ast.For, ast.While)):
            self.assertEqual(node.orelse, [])
        for node in self.nodes((ast.Div, ast.MatMult)):
            self.fail("a sign that is not among the rules")
        for node in self.nodes(ast.Constant):
            self.assertNotIsInstance(node.value, (float, complex, bytes))
        for node in self.nodes(ast.ListComp):
            self.assertEqual(len(node.generators), 1)
            self.assertLessEqual(len(node.generators[0].ifs), 1)

    def test_functions_have_plain_parameters(self):
        for node in self.nodes((ast.FunctionDef, ast.Lambda)):
            self.assertIsNone(node.args.vararg)
            self.assertIsNone(node.args.kwarg)
            self.assertEqual(node.args.kwonlyargs + node.args.posonlyargs, [])

    def test_imports(self):
        for node in self.nodes(ast.ImportFrom):
            self.assertEqual(node.level, 0)
            self.assertTrue(node.module.startswith("tilechain."))
            for alias in node.names:
                self.assertNotEqual(alias.name, "*")

    def test_imports_come_from_the_file_that_defines_the_name(self):
        for node in self.nodes(ast.ImportFrom):
            text, tree = self.files[node.module.split(".")[1] + ".py"]
            defined = [part.name for part in tree.body if isinstance(part, (ast.FunctionDef, ast.ClassDef))]
            for alias in node.names:
                self.assertIn(alias.name, defined)

    def test_no_two_files_draw_from_one_another(self):
        draws = {}
        for name, (text, tree) in self.files.items():
            modules = [node.module for node in tree.body if isinstance(node, ast.ImportFrom)]
            draws[name] = {module.split(".")[1] + ".py" for module in modules}
        while draws:
            free = [name for name in draws if not draws[name] & set(draws)]
            self.assertNotEqual(free, [], "files that draw from one another")
            for name in free:
                draws.pop(name)

    def test_no_local_is_called_like_an_import_or_a_class(self):
        for name, (text, tree) in self.files.items():
            taken = {node.name for node in tree.body if isinstance(node, ast.ClassDef)}
            for node in tree.body:
                if isinstance(node, ast.ImportFrom):
                    taken.update(alias.name for alias in node.names)
            for function in ast.walk(tree):
                if isinstance(function, ast.FunctionDef):
                    self.assertEqual(taken.intersection(bound_names(function)), set(), name)

    def test_names(self):
        for name, (text, tree) in self.files.items():
            for bound in bound_names(tree):
                self.assertNotIn(bound, dir(builtins), name)
                if not bound.startswith("__"):
                    self.assertRegex(bound, r"^[A-Za-z][A-Za-z0-9_]*$", name)
        for node in self.nodes(ast.Name):
            self.assertNotIn(node.id, NAMES_NOWHERE)
            if node.id in dir(builtins):
                self.assertIn(node.id, OWN_NAMES_OF_PYTHON)

    def test_methods(self):
        for node in self.nodes(ast.Attribute):
            self.assertNotIn(node.attr, NAMES_NOWHERE)
        for node in self.nodes(ast.Call):
            if isinstance(node.func, ast.Attribute):
                self.assertIn(node.func.attr, self.methods)

    def test_is_stands_beside_plain_values_alone(self):
        for node in self.nodes(ast.Compare):
            if isinstance(node.ops[0], (ast.Is, ast.IsNot)):
                self.assertIsInstance(node.comparators[0], ast.Constant)
                self.assertIn(repr(node.comparators[0].value), ("None", "True", "False"))


if __name__ == "__main__":
    unittest.main()
