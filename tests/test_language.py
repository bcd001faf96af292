"""The plainest rules of the program's language, looked at in the package's own files."""

import ast
import builtins
import pathlib
import re
import unittest

PACKAGE = pathlib.Path(__file__).resolve().parent.parent / "lotmeal"
FILES = sorted(path for path in PACKAGE.rglob("*") if "__pycache__" not in path.parts)

STATEMENTS = (ast.FunctionDef, ast.ClassDef, ast.ImportFrom, ast.Assign, ast.AugAssign, ast.If, ast.While, ast.For,
              ast.Return, ast.Break, ast.Continue, ast.Pass, ast.Raise, ast.Try, ast.Expr)
BANNED = (ast.SetComp, ast.DictComp, ast.GeneratorExp, ast.NamedExpr, ast.Starred, ast.Div, ast.MatMult,
          ast.Await, ast.Yield, ast.YieldFrom)
OWN_NAMES = set("""len range enumerate zip min max sum abs sorted reversed int str bool list tuple dict set frozenset
    isinstance ord repr any all divmod Exception ValueError TypeError KeyError IndexError LookupError
    ZeroDivisionError ArithmeticError OverflowError RuntimeError NotImplementedError AttributeError
    StopIteration""".split())
OWN_METHODS = set("""append clear copy count endswith extend find get index insert isalnum isalpha isdigit islower
    isspace isupper items join keys ljust lower lstrip partition pop remove replace reverse rfind rjust rpartition
    rsplit rstrip setdefault split splitlines startswith strip update upper values zfill bit_length add discard
    __init__""".split())
KINDS = (str, int, list, tuple, dict, set, bytes)
WORDS = re.compile(r"\b(type|typing|typing_extensions|enum|Enum|IntEnum|StrEnum|Flag|IntFlag|Generic|Protocol|ABC|"
                   r"ABCMeta|namedtuple|NamedTuple|TypedDict|TYPE_CHECKING|abstractmethod)\b|"
                   r"dataclass|overload|contextmanager")


class LanguageTest(unittest.TestCase):
    def check_nodes(self, check):
        for path in FILES:
            for node in ast.walk(ast.parse(path.read_text())):
                with self.subTest(file=path.name, line=getattr(node, "lineno", 0)):
                    check(node)

    def test_files_and_signs(self):
        self.assertIn(PACKAGE / "__init__.py", FILES)
        for path in FILES:
            with self.subTest(file=path.name):
                self.assertRegex(path.name, r"\A[a-z0-9_]+\.py\Z")
                text = path.read_bytes().decode("ascii")
                self.assertRegex(text, r"\A[ -~\n]*\Z")
                self.assertIsNone(WORDS.search(text))
                self.assertLessEqual(text.count("\n"), 400)
                self.assertLessEqual(max(len(line) for line in text.split("\n")), 120)

    def test_statements_and_expressions(self):
        def check(node):
            if isinstance(node, ast.stmt):
                self.assertIsInstance(node, STATEMENTS)
            self.assertNotIsInstance(node, BANNED)
            if isinstance(node, ast.Assign):
                self.assertEqual(len(node.targets), 1)
            if isinstance(node, (ast.For, ast.While)):
                self.assertEqual(node.orelse, [])
            if isinstance(node, ast.Constant):
                self.assertNotIsInstance(node.value, (float, complex, bytes))

        self.check_nodes(check)

    def test_functions_are_small_and_plain(self):
        def check(node):
            if isinstance(node, (ast.FunctionDef, ast.ClassDef)):
                self.assertEqual(node.decorator_list, [])
            if isinstance(node, ast.FunctionDef):
                self.assertLessEqual(node.end_lineno - node.lineno + 1, 40)
                self.assertIsNone(node.args.vararg or node.args.kwarg)
                self.assertEqual(node.args.kwonlyargs + node.args.posonlyargs, [])

        self.check_nodes(check)

    def test_imports_are_the_package_s_own(self):
        def check(node):
            if isinstance(node, ast.ImportFrom):
                self.assertEqual(node.level, 0)
                self.assertRegex(node.module, r"\Alotmeal\.[a-z0-9_]+\Z")
                self.assertNotIn("*", [name.name for name in node.names])

        self.check_nodes(check)

    def test_names(self):
        def check(node):
            if isinstance(node, ast.Name):
                self.assertTrue(node.id in OWN_NAMES or not hasattr(builtins, node.id), node.id)
            for name in (getattr(node, "id", None), getattr(node, "arg", None)):
                if isinstance(name, str):
                    self.assertFalse(name.startswith("_"), name)
            if isinstance(node, ast.arg):
                self.assertFalse(hasattr(builtins, node.arg), node.arg)

        self.check_nodes(check)

    def test_methods_of_python_s_own_values(self):
        def check(node):
            if isinstance(node, ast.Attribute) and any(hasattr(kind, node.attr) for kind in KINDS):
                self.assertIn(node.attr, OWN_METHODS)

        self.check_nodes(check)


if __name__ == "__main__":
    unittest.main()
