"""The form of the package's own files: what of LANGUAGE.md's rules a walk over the code can see."""

import ast
import builtins
import pathlib
import re
import unittest

PACKAGE = pathlib.Path(__file__).resolve().parent.parent / "paceplan"
FILES = sorted(PACKAGE.rglob("*.py"))

ERRORS = """Exception ValueError TypeError KeyError IndexError LookupError ZeroDivisionError ArithmeticError
    OverflowError RuntimeError NotImplementedError AttributeError StopIteration""".split()
OWN_NAMES = """len range enumerate zip min max sum abs sorted reversed int str bool list tuple dict set frozenset
    isinstance ord repr any all divmod""".split() + ERRORS
OWN_METHODS = """append clear copy count endswith extend find get index insert isalnum isalpha isdigit islower
    isspace isupper items join keys ljust lower lstrip partition pop remove replace reverse rfind rjust rpartition
    rsplit rstrip setdefault split splitlines startswith strip update upper values zfill bit_length""".split()
WORDS_OUT = """type typing typing_extensions enum Enum IntEnum StrEnum Flag IntFlag Generic Protocol ABC ABCMeta
    namedtuple NamedTuple TypedDict TYPE_CHECKING abstractmethod""".split()
NAMES_OUT = """register mro elements open input version_info with_traceback add_note attrgetter breakpoint builtins
    compile copyright credits delattr dir eval exec exit gc getattr globals hasattr help id importlib license locals
    methodcaller os quit setattr super type vars format format_map""".split()
METHODS_WITH_UNDERSCORES = "__init__ __eq__ __repr__ __str__ __len__".split()
VALUES_OUT = """items keys values pop update append clear extend insert remove reverse setdefault sort args encode
    format""".split()
STATEMENTS = (ast.Assign, ast.AugAssign, ast.If, ast.While, ast.For, ast.Return, ast.Break, ast.Continue, ast.Pass,
              ast.Raise, ast.Try, ast.Expr, ast.FunctionDef, ast.ClassDef, ast.ImportFrom)
EXPRESSIONS_OUT = (ast.SetComp, ast.DictComp, ast.GeneratorExp, ast.NamedExpr, ast.Starred, ast.Yield, ast.YieldFrom,
                   ast.Await, ast.Div, ast.MatMult)


def trees():
    for path in FILES:
        yield path.name, ast.parse(path.read_text())


def nodes(*kinds):
    for name, tree in trees():
        for node in ast.walk(tree):
            if isinstance(node, kinds):
                yield f"{name}:{getattr(node, 'lineno', 0)}", node


def own_methods():
    found = set()
    for place, node in nodes(ast.ClassDef):
        found.update([part.name for part in node.body if isinstance(part, ast.FunctionDef)])
    return found


def bound_names(tree):
    """Names bound at a file's top, each as often as it is bound."""
    found = []
    for node in tree.body:
        if isinstance(node, (ast.FunctionDef, ast.ClassDef)):
            found.append(node.name)
        elif isinstance(node, ast.ImportFrom):
            found.extend([part.asname or part.name for part in node.names])
        elif isinstance(node, ast.Assign):
            found.extend([target.id for target in node.targets])
    return found


class Form(unittest.TestCase):
    def test_files(self):
        self.assertTrue(FILES)
        for path in PACKAGE.rglob("*"):
            if "__pycache__" not in path.parts:
                self.assertRegex(path.name, r"^([a-z][a-z0-9_]*|__init__|__main__)\.py$")
                self.assertNotIn(path.stem, dir(builtins) + WORDS_OUT)

    def test_signs_and_sizes(self):
        for path in FILES:
            rows = path.read_text().split("\n")
            self.assertLessEqual(len(rows), 401, path.name)
            for number, row in enumerate(rows, 1):
                self.assertRegex(row, r"^[ -~]{0,120}$", f"{path.name}:{number}")
        for place, node in nodes(ast.FunctionDef):
            self.assertLessEqual(node.end_lineno - node.lineno + 1, 40, place)

    def test_words_that_stand_nowhere(self):
        for path in FILES:
            words = re.findall(r"[A-Za-z_0-9]+", path.read_text())
            self.assertEqual([word for word in words if word in WORDS_OUT], [], path.name)
            self.assertIsNone(re.search("dataclass|overload|contextmanager", path.read_text()), path.name)

    def test_imports(self):
        drawn = {}
        for name, tree in trees():
            for node in ast.walk(tree):
                if isinstance(node, (ast.Import, ast.ImportFrom)):
                    self.assertIsInstance(node, ast.ImportFrom, name)
                    self.assertEqual(node.level, 0, name)
                    self.assertIn(node, tree.body, name)
                    self.assertTrue(node.module.startswith("paceplan."), name)
                    source = node.module.split(".")[1] + ".py"
                    drawn.setdefault(name, set()).add(source)
                    self.assert_defined(source, [part.name for part in node.names])
        self.assert_no_ring(drawn)

    def assert_defined(self, source, names):
        tree = ast.parse((PACKAGE / source).read_text())
        own = [name for node in tree.body if not isinstance(node, ast.ImportFrom)
               for name in bound_names(ast.Module([node], []))]
        for name in names:
            self.assertIn(name, own, source)

    def assert_no_ring(self, drawn):
        for start in drawn:
            reached = set(drawn[start])
            while True:
                more = reached.union(*[drawn.get(name, set()) for name in reached])
                if more == reached:
                    break
                reached = more
            self.assertNotIn(start, reached)

    def test_statements(self):
        for place, node in nodes(ast.stmt):
            self.assertIsInstance(node, STATEMENTS, place)
            if isinstance(node, ast.Assign):
                self.assertEqual(len(node.targets), 1, place)
            if isinstance(node, (ast.For, ast.While)):
                self.assertEqual(node.orelse, [], place)
            if isinstance(node, ast.Try):
                self.assertEqual(node.finalbody, [], place)
            if isinstance(node, ast.Expr):
                is_docstring = isinstance(node.value, ast.Constant) and isinstance(node.value.value, str)
                self.assertTrue(is_docstring or isinstance(node.value, ast.Call), place)

    def test_expressions(self):
        for place, node in nodes(ast.AST):
            self.assertNotIsInstance(node, EXPRESSIONS_OUT, place)
            if isinstance(node, ast.Constant):
                self.assertIsInstance(node.value, (int, str, type(None)), place)
                self.assertFalse(isinstance(node.value, str) and "%" in node.value, place)
            if isinstance(node, ast.ListComp):
                self.assertEqual(len(node.generators), 1, place)
                self.assertLessEqual(len(node.generators[0].ifs), 1, place)
            if isinstance(node, ast.BinOp) and isinstance(node.op, ast.Pow):
                self.assertIsInstance(node.right, ast.Constant, place)
            if isinstance(node, ast.Compare) and any(isinstance(op, (ast.Is, ast.IsNot)) for op in node.ops):
                self.assertTrue(all(isinstance(part, ast.Constant) for part in node.comparators), place)

    def test_functions_and_classes(self):
        for place, node in nodes(ast.FunctionDef):
            self.assertEqual(node.decorator_list, [], place)
            self.assertIsNone(node.args.vararg or node.args.kwarg or node.returns, place)
            self.assertEqual(node.args.kwonlyargs + node.args.posonlyargs, [], place)
        for place, node in nodes(ast.ClassDef):
            self.assertEqual(node.decorator_list + node.keywords, [], place)
            self.assertLessEqual(len(node.bases), 1, place)
            for part in node.body:
                self.assertIsInstance(part, (ast.FunctionDef, ast.Expr), place)

    def test_names(self):
        methods = own_methods()
        for place, node in nodes(ast.Name, ast.arg, ast.FunctionDef, ast.ClassDef, ast.Attribute):
            name = getattr(node, "id", getattr(node, "arg", getattr(node, "attr", getattr(node, "name", ""))))
            self.assertNotIn(name, NAMES_OUT, place)
            if name not in METHODS_WITH_UNDERSCORES:
                self.assertRegex(name, r"^[A-Za-z][A-Za-z0-9_]*$", place)
            if isinstance(node, ast.Name) and hasattr(builtins, name):
                self.assertIn(name, OWN_NAMES, place)
                self.assertIsInstance(node.ctx, ast.Load, place)
            if isinstance(node, ast.arg):
                self.assertFalse(hasattr(builtins, name), place)
            if isinstance(node, ast.Attribute) and isinstance(node.ctx, ast.Store):
                self.assertNotIn(name, VALUES_OUT, place)
                self.assertNotIn(name, methods, place)
        for place, node in nodes(ast.Call):
            if isinstance(node.func, ast.Attribute):
                self.assertIn(node.func.attr, OWN_METHODS + sorted(methods), place)

    def test_each_name_once(self):
        for name, tree in trees():
            found = bound_names(tree)
            self.assertEqual(sorted(found), sorted(set(found)), name)
            for place, node in ((name, node) for node in ast.walk(tree)):
                if isinstance(node, ast.arg):
                    self.assertNotIn(node.arg, found, place)
                if isinstance(node, ast.Name) and isinstance(node.ctx, ast.Store) and node.col_offset > 0:
                    self.assertNotIn(node.id, found, place)


if __name__ == "__main__":
    unittest.main()
