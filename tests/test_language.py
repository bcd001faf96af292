"""The rules of the program's language that can be looked at one by one in the package's own files."""

import ast
import builtins
import pathlib
import re
import unittest

PACKAGE = pathlib.Path(__file__).resolve().parent.parent / "lotmeal"
FILES = sorted(path for path in PACKAGE.rglob("*") if "__pycache__" not in path.parts)
TREES = {path.stem: ast.parse(path.read_text()) for path in FILES}

STATEMENTS = (ast.FunctionDef, ast.ClassDef, ast.ImportFrom, ast.Assign, ast.AugAssign, ast.If, ast.While, ast.For,
              ast.Return, ast.Break, ast.Continue, ast.Pass, ast.Raise, ast.Try, ast.Expr)
TOP_STATEMENTS = (ast.FunctionDef, ast.ClassDef, ast.ImportFrom, ast.Assign, ast.Expr)
BANNED = (ast.SetComp, ast.DictComp, ast.GeneratorExp, ast.NamedExpr, ast.Starred, ast.Div, ast.MatMult,
          ast.Await, ast.Yield, ast.YieldFrom, ast.Set, ast.AnnAssign)
OWN_NAMES = set("""len range enumerate zip min max sum abs sorted reversed int str bool list tuple dict set frozenset
    isinstance ord repr any all divmod Exception ValueError TypeError KeyError IndexError LookupError
    ZeroDivisionError ArithmeticError OverflowError RuntimeError NotImplementedError AttributeError
    StopIteration""".split())
OWN_METHODS = set("""append clear copy count endswith extend find get index insert isalnum isalpha isdigit islower
    isspace isupper items join keys ljust lower lstrip partition pop remove replace reverse rfind rjust rpartition
    rsplit rstrip setdefault split splitlines startswith strip update upper values zfill bit_length add discard
    __init__""".split())
CHANGES = set("append clear extend insert pop remove reverse setdefault update".split())
NEVER = set("""register mro elements open input version_info with_traceback add_note attrgetter breakpoint builtins
    compile copyright credits delattr dir eval exec exit gc getattr globals hasattr help id importlib license locals
    methodcaller os quit setattr super type vars sys format format_map chr""".split())
KINDS = (str, int, list, tuple, dict, set, bytes)
WALKED = ("zip", "enumerate", "reversed", "range", "items", "keys", "values")
WALKERS = ("list", "tuple", "dict", "sorted", "sum", "any", "all", "enumerate", "zip", "min", "max", "join")
KEYWORDS = {"sorted": ("key", "reverse"), "min": ("key", "default"), "max": ("key", "default"), "sum": ("start",),
            "enumerate": ("start",), "zip": ("strict",)}
WORDS = re.compile(r"\b(type|typing|typing_extensions|enum|Enum|IntEnum|StrEnum|Flag|IntFlag|Generic|Protocol|ABC|"
                   r"ABCMeta|namedtuple|NamedTuple|TypedDict|TYPE_CHECKING|abstractmethod)\b|"
                   r"dataclass|overload|contextmanager")


def called(node):
    """The name under which something is called, a function's or a method's."""
    if not isinstance(node, ast.Call):
        return None
    return getattr(node.func, "id", None) or getattr(node.func, "attr", None)


def parents_of(tree):
    return {child: node for node in ast.walk(tree) for child in ast.iter_child_nodes(node)}


def bound_at_top(tree):
    names = []
    for node in tree.body:
        if isinstance(node, (ast.FunctionDef, ast.ClassDef)):
            names.append(node.name)
        elif isinstance(node, ast.ImportFrom):
            names += [name.asname or name.name for name in node.names]
        elif isinstance(node, ast.Assign):
            names += [target.id for target in node.targets]
    return names


class LanguageTest(unittest.TestCase):
    def check_nodes(self, check):
        for name, tree in TREES.items():
            for node in ast.walk(tree):
                with self.subTest(file=name, line=getattr(node, "lineno", 0)):
                    check(node)

    def test_files_and_signs(self):
        self.assertIn(PACKAGE / "__init__.py", FILES)
        for path in FILES:
            with self.subTest(file=path.name):
                self.assertEqual(path.parent, PACKAGE)
                self.assertRegex(path.name, r"\A[a-z0-9_]+\.py\Z")
                self.assertFalse(path.stem != "__init__" and hasattr(builtins, path.stem))
                text = path.read_bytes().decode("ascii")
                self.assertRegex(text, r"\A[ -~\n]*\Z")
                self.assertIsNone(WORDS.search(text))
                self.assertLessEqual(text.count("\n"), 400)
                self.assertLessEqual(max(len(line) for line in text.split("\n")), 120)

    def test_the_top_of_a_module(self):
        for name, tree in TREES.items():
            names = bound_at_top(tree)
            with self.subTest(file=name):
                self.assertEqual(len(names), len(set(names)))
                for node in tree.body:
                    self.assertIsInstance(node, TOP_STATEMENTS)
                    if isinstance(node, ast.Expr):
                        self.assertIs(node, tree.body[0])
                        self.assertIsInstance(node.value, ast.Constant)
                    if isinstance(node, ast.Assign):
                        for part in ast.walk(node.value):
                            self.assertNotIsInstance(part, (ast.Call, ast.ListComp, ast.Lambda))

    def test_statements_and_expressions(self):
        def check(node):
            if isinstance(node, ast.stmt):
                self.assertIsInstance(node, STATEMENTS)
            self.assertNotIsInstance(node, BANNED)
            if isinstance(node, ast.Assign):
                self.assertEqual(len(node.targets), 1)
                self.assertNotIsInstance(node.targets[0], (ast.Tuple, ast.List))
            if isinstance(node, (ast.For, ast.While)):
                self.assertEqual(node.orelse, [])
            if isinstance(node, ast.Try):
                self.assertEqual(node.finalbody, [])
            if isinstance(node, ast.Constant):
                self.assertNotIsInstance(node.value, (float, complex, bytes))
                self.assertNotIn("%", node.value if isinstance(node.value, str) else "")
            if isinstance(node, ast.ListComp):
                self.assertEqual(len(node.generators), 1)
                self.assertLessEqual(len(node.generators[0].ifs), 1)
            if isinstance(node, ast.FormattedValue):
                self.assertIsInstance(node.value, ast.Name)
                self.assertIsNone(node.format_spec)
            if isinstance(node, ast.BinOp) and isinstance(node.op, ast.Pow):
                self.assertIsInstance(node.right, ast.Constant)
            if isinstance(node, ast.Compare):
                sides = [node.left] + node.comparators
                if any(isinstance(op, (ast.Is, ast.IsNot)) for op in node.ops):
                    self.assertTrue(any(getattr(side, "value", 0) in (None, True, False) for side in sides))

        self.check_nodes(check)

    def test_functions_are_small_and_plain(self):
        def check(node):
            if isinstance(node, (ast.FunctionDef, ast.ClassDef)):
                self.assertEqual(node.decorator_list, [])
            if isinstance(node, ast.FunctionDef):
                self.assertLessEqual(node.end_lineno - node.lineno + 1, 40)
                self.assertIsNone(node.args.vararg or node.args.kwarg or node.returns)
                self.assertEqual(node.args.kwonlyargs + node.args.posonlyargs, [])
                self.assertTrue(all(isinstance(value, ast.Constant) for value in node.args.defaults))
            if isinstance(node, ast.arg):
                self.assertIsNone(node.annotation)
            if isinstance(node, ast.ClassDef):
                self.assertLessEqual(len(node.bases), 1)
                for part in node.body:
                    self.assertIsInstance(part, (ast.FunctionDef, ast.Expr, ast.Pass))

        self.check_nodes(check)

    def test_imports_are_the_package_s_own(self):
        drawn = {}
        for name, tree in TREES.items():
            drawn[name] = []
            for node in ast.walk(tree):
                if isinstance(node, ast.ImportFrom):
                    with self.subTest(file=name, line=node.lineno):
                        self.assertIn(node, tree.body)
                        self.assertEqual(node.level, 0)
                        self.assertRegex(node.module, r"\Alotmeal\.[a-z0-9_]+\Z")
                        source = node.module.partition(".")[2]
                        drawn[name].append(source)
                        made = [part for part in TREES[source].body if not isinstance(part, ast.ImportFrom)]
                        own = bound_at_top(ast.Module(body=made, type_ignores=[]))
                        self.assertLessEqual({part.name for part in node.names}, set(own))
        self.assertEqual(bound_at_top(TREES["__init__"]), [])
        done = set()
        while len(done) < len(drawn):
            free = [name for name in drawn if name not in done and set(drawn[name]) <= done]
            self.assertTrue(free, "files draw from one another")
            done.update(free)

    def test_imports_are_used(self):
        for name, tree in TREES.items():
            used = {node.id for node in ast.walk(tree) if isinstance(node, ast.Name)}
            for node in tree.body:
                if isinstance(node, ast.ImportFrom):
                    self.assertLessEqual({part.name for part in node.names}, used, name)

    def test_names(self):
        def check(node):
            if isinstance(node, ast.Name):
                self.assertTrue(node.id in OWN_NAMES or not hasattr(builtins, node.id), node.id)
            for name in (getattr(node, "id", None), getattr(node, "arg", None), getattr(node, "attr", None)):
                if isinstance(name, str) and name != "__init__":
                    self.assertFalse(name.startswith("_"), name)
                    self.assertNotIn(name, NEVER)

        self.check_nodes(check)

    def test_locals_are_called_like_nothing_else(self):
        for name, tree in TREES.items():
            taken = set(bound_at_top(tree)) | set(dir(builtins))
            for function in [node for node in ast.walk(tree) if isinstance(node, ast.FunctionDef)]:
                for node in ast.walk(function):
                    local = getattr(node, "arg", None) if isinstance(node, ast.arg) else None
                    if isinstance(node, ast.Name) and isinstance(node.ctx, ast.Store):
                        local = node.id
                    with self.subTest(file=name, function=function.name):
                        self.assertNotIn(local, taken)

    def test_methods_of_python_s_own_values(self):
        def check(node):
            if isinstance(node, ast.Attribute) and any(hasattr(kind, node.attr) for kind in KINDS):
                self.assertIn(node.attr, OWN_METHODS)

        self.check_nodes(check)

    def test_methods_and_values_of_classes(self):
        methods = set()
        given = set()
        for tree in TREES.values():
            for node in ast.walk(tree):
                if isinstance(node, ast.ClassDef):
                    names = [part.name for part in node.body if isinstance(part, ast.FunctionDef)]
                    self.assertEqual(len(names), len(set(names)))
                    methods.update(names)
                if isinstance(node, ast.Attribute) and isinstance(node.ctx, ast.Store):
                    given.add(node.attr)
        self.assertEqual(methods & given, set())
        for name in (methods | given) - {"__init__"}:
            self.assertFalse(any(hasattr(kind, name) for kind in KINDS), name)

    def test_what_is_walked_on_the_spot(self):
        for name, tree in TREES.items():
            parents = parents_of(tree)
            for node in ast.walk(tree):
                if called(node) in WALKED:
                    parent = parents[node]
                    walked = isinstance(parent, (ast.For, ast.comprehension)) and parent.iter is node
                    with self.subTest(file=name, line=node.lineno):
                        self.assertTrue(walked or called(parent) in WALKERS)
                if called(node) in ("set", "frozenset"):
                    parent = parents[node]
                    beside = isinstance(parent, ast.Compare) or called(parent) in ("sorted", "len")
                    with self.subTest(file=name, line=node.lineno):
                        self.assertTrue(beside and not getattr(parent, "keywords", []))

    def test_keywords_at_python_s_own(self):
        def check(node):
            if isinstance(node, ast.Call) and getattr(node.func, "id", None) in OWN_NAMES:
                allowed = KEYWORDS.get(node.func.id, ())
                for keyword in node.keywords:
                    self.assertIn(keyword.arg, allowed)

        self.check_nodes(check)

    def test_errors_are_taken_by_name(self):
        def check(node):
            if isinstance(node, ast.ExceptHandler):
                self.assertIsInstance(node.type, ast.Name)
                self.assertNotIn(node.type.id, ("Exception", "TypeError"))
            if isinstance(node, ast.Raise):
                self.assertIsInstance(node.exc, ast.Call)

        self.check_nodes(check)

    def test_what_a_loop_walks_is_not_changed_in_it(self):
        for name, tree in TREES.items():
            for loop in [node for node in ast.walk(tree) if isinstance(node, ast.For)]:
                walked = [ast.unparse(part) for part in [loop.iter] + getattr(loop.iter, "args", [])]
                for node in [part for line in loop.body for part in ast.walk(line)]:
                    changed = None
                    if isinstance(node, ast.Subscript) and isinstance(node.ctx, ast.Store):
                        changed = ast.unparse(node.value)
                    if called(node) in CHANGES and isinstance(node.func, ast.Attribute):
                        changed = ast.unparse(node.func.value)
                    with self.subTest(file=name, line=loop.lineno):
                        self.assertNotIn(changed, walked)


if __name__ == "__main__":
    unittest.main()
