"""Holds the package's files to those rules of the language that a walk over them can see."""

import ast
import builtins
import pathlib
import re
import unittest

FOLDER = pathlib.Path(__file__).resolve().parent.parent / "copyclerk"
FILES = sorted(path for path in FOLDER.iterdir() if path.name != "__pycache__")

ERROR_CLASSES = (
    "Exception ValueError TypeError KeyError IndexError LookupError ZeroDivisionError ArithmeticError "
    "OverflowError RuntimeError NotImplementedError AttributeError StopIteration"
).split()
OWN_NAMES = (
    "len range enumerate zip min max sum abs sorted reversed int str bool list tuple dict set frozenset "
    "isinstance ord repr any all divmod"
).split() + ERROR_CLASSES
METHODS = (
    "append clear copy count endswith extend find get index insert isalnum isalpha isdigit islower isspace "
    "isupper items join keys ljust lower lstrip partition pop remove replace reverse rfind rjust rpartition "
    "rsplit rstrip setdefault split splitlines startswith strip update upper values zfill bit_length __init__"
).split()
BANNED_NAMES = (
    "register mro elements open input version_info with_traceback add_note attrgetter breakpoint builtins "
    "compile copyright credits delattr dir eval exec exit gc getattr globals hasattr help id importlib license "
    "locals methodcaller os quit setattr super type vars sys __name__ chr print"
).split()
BANNED_WORDS = (
    r"\b(type|typing|typing_extensions|enum|Enum|IntEnum|StrEnum|Flag|IntFlag|Generic|Protocol|ABC|ABCMeta|"
    r"namedtuple|NamedTuple|TypedDict|TYPE_CHECKING|abstractmethod)\b|dataclass|overload|contextmanager"
)
STATEMENTS = (
    ast.Assign, ast.AugAssign, ast.If, ast.While, ast.For, ast.Return, ast.Break, ast.Continue, ast.Pass,
    ast.Raise, ast.Try, ast.FunctionDef, ast.ClassDef, ast.ImportFrom, ast.Expr,
)
EXPRESSIONS = (
    ast.Constant, ast.List, ast.Tuple, ast.Dict, ast.BinOp, ast.UnaryOp, ast.Compare, ast.BoolOp, ast.IfExp,
    ast.Call, ast.Attribute, ast.Subscript, ast.Slice, ast.ListComp, ast.JoinedStr, ast.FormattedValue,
    ast.Name, ast.Lambda,
)
UNLIKE_PYTHON = set(dir(builtins))
PYTHON_VALUES_HAVE = {name for kind in (str, int, list, tuple, dict, set, frozenset, bytes) for name in dir(kind)}
FREE_VALUES = "count index title find get join lower upper split strip copy add".split()
FREE_METHODS = METHODS + ["add", "discard", "__eq__", "__repr__", "__str__", "__len__"]


def trees():
    for path in FILES:
        yield path, ast.parse(path.read_text(encoding="utf-8"))


def bound_at_top(tree):
    names = []
    for node in tree.body:
        if isinstance(node, (ast.FunctionDef, ast.ClassDef)):
            names.append(node.name)
        elif isinstance(node, ast.Assign):
            names.append(node.targets[0].id)
    return names


def imports(tree):
    return [node for node in tree.body if isinstance(node, ast.ImportFrom)]


def each_node():
    for path, tree in trees():
        for node in ast.walk(tree):
            yield f"{path.name}:{getattr(node, 'lineno', 0)}", node


class Language(unittest.TestCase):
    def test_files(self):
        self.assertIn(FOLDER / "__init__.py", FILES)
        for path in FILES:
            self.assertRegex(path.name, r"\A(__init__|__main__|[a-z][a-z0-9_]*)\.py\Z")
            self.assertNotIn(path.stem, UNLIKE_PYTHON)
            self.assertFalse(path.stem.startswith("test"), path.name)

    def test_sizes_and_signs(self):
        for path in FILES:
            text = path.read_bytes().decode("utf-8")
            self.assertRegex(text, r"\A[ -~\n]*\Z", path.name)
            self.assertIsNone(re.search(BANNED_WORDS, text), path.name)
            self.assertLessEqual(len(text.split("\n")), 400, path.name)
            self.assertLessEqual(max(len(line) for line in text.split("\n")), 120, path.name)

    def test_imports(self):
        drawn = {}
        tops = {path.stem: bound_at_top(tree) for path, tree in trees()}
        for path, tree in trees():
            drawn[path.stem] = []
            for node in imports(tree):
                package, dot, stem = node.module.partition(".")
                self.assertEqual((node.level, package, dot), (0, "copyclerk", "."))
                drawn[path.stem].append(stem)
                for name in node.names:
                    self.assertIn(name.name, tops[stem])
                    self.assertIsNone(name.asname)
        while drawn:
            ready = [stem for stem in drawn if not set(drawn[stem]) & set(drawn)]
            self.assertTrue(ready, drawn)
            for stem in ready:
                drawn.pop(stem)

    def test_tops(self):
        for path, tree in trees():
            names = bound_at_top(tree) + [name.name for node in imports(tree) for name in node.names]
            self.assertEqual(len(names), len(set(names)), path.name)
            self.assertIsNotNone(ast.get_docstring(tree), path.name)
            for node in tree.body[1:]:
                self.assertIsInstance(node, (ast.Assign, ast.FunctionDef, ast.ClassDef, ast.ImportFrom))

    def test_statements(self):
        for path, tree in trees():
            docstring = tree.body[0]
            for node in ast.walk(tree):
                if isinstance(node, ast.stmt) and node is not docstring:
                    with self.subTest(file=path.name, line=node.lineno):
                        self.assertIsInstance(node, STATEMENTS)
                        self.check_statement(node)

    def check_statement(self, node):
        if isinstance(node, ast.Expr):
            self.assertIsInstance(node.value, ast.Call)
        if isinstance(node, ast.Assign):
            self.assertEqual(len(node.targets), 1)
            self.assertNotIsInstance(node.targets[0], (ast.Tuple, ast.List))
        if isinstance(node, (ast.For, ast.While)):
            self.assertEqual(node.orelse, [])
        if isinstance(node, ast.Try):
            self.assertEqual(node.finalbody, [])
            for handler in node.handlers:
                self.assertIsNotNone(handler.type)

    def test_expressions(self):
        for where, node in each_node():
            with self.subTest(where=where):
                self.check_expression(node)

    def check_expression(self, node):
        if isinstance(node, ast.expr):
            self.assertIsInstance(node, EXPRESSIONS)
        if isinstance(node, ast.Constant):
            self.assertIsInstance(node.value, (int, str, bool, type(None)))
            self.assertNotIn("%", str(node.value))
        if isinstance(node, ast.ListComp):
            self.assertEqual(len(node.generators), 1)
            self.assertLessEqual(len(node.generators[0].ifs), 1)
        if isinstance(node, ast.FormattedValue):
            self.assertIsInstance(node.value, ast.Name)
            self.assertIsNone(node.format_spec)
        if isinstance(node, ast.BinOp):
            self.assertNotIsInstance(node.op, (ast.Div, ast.MatMult))
        if isinstance(node, ast.Compare) and isinstance(node.ops[0], (ast.Is, ast.IsNot)):
            self.assertIsInstance(node.comparators[0], ast.Constant)

    def test_functions_and_classes(self):
        for where, node in each_node():
            with self.subTest(where=where):
                if isinstance(node, ast.FunctionDef):
                    self.check_function(node)
                if isinstance(node, ast.ClassDef):
                    self.check_class(node)

    def check_function(self, node):
        self.assertLessEqual(node.end_lineno - node.lineno + 1, 40)
        self.assertEqual(node.decorator_list, [])
        given = node.args
        self.assertEqual((given.vararg, given.kwarg, given.kwonlyargs, given.posonlyargs),
                         (None, None, [], []))

    def check_class(self, node):
        self.assertEqual((node.decorator_list, node.keywords), ([], []))
        self.assertLessEqual(len(node.bases), 1)
        for inner in node.body:
            self.assertIsInstance(inner, (ast.FunctionDef, ast.Pass))

    def test_names(self):
        for path, tree in trees():
            imported = [name.name for node in imports(tree) for name in node.names]
            classes = [node.name for node in tree.body if isinstance(node, ast.ClassDef)]
            bound = [node.id for node in ast.walk(tree)
                     if isinstance(node, ast.Name) and isinstance(node.ctx, ast.Store)]
            bound += [node.arg for node in ast.walk(tree) if isinstance(node, ast.arg)]
            for name in bound + bound_at_top(tree):
                self.assertRegex(name, r"\A[A-Za-z][A-Za-z0-9_]*\Z")
                self.assertNotIn(name, UNLIKE_PYTHON)
            for name in bound:
                self.assertNotIn(name, imported + classes)
            known = set(bound + bound_at_top(tree) + imported + OWN_NAMES)
            for node in ast.walk(tree):
                if isinstance(node, ast.Name):
                    with self.subTest(file=path.name, line=node.lineno):
                        self.assertIn(node.id, known)
                        self.assertNotIn(node.id, BANNED_NAMES)

    def test_values_of_objects(self):
        methods = {inner.name for where, node in each_node() if isinstance(node, ast.ClassDef)
                   for inner in node.body if isinstance(inner, ast.FunctionDef)}
        self.assertEqual(methods & (PYTHON_VALUES_HAVE - set(FREE_METHODS)), set())
        for where, node in each_node():
            if isinstance(node, ast.Attribute) and isinstance(node.ctx, ast.Store):
                with self.subTest(where=where):
                    self.assertIsInstance(node.value, ast.Name)
                    self.assertNotIn(node.attr, methods)
                    self.assertNotIn(node.attr, PYTHON_VALUES_HAVE - set(FREE_VALUES))

    def test_methods(self):
        own = [node.name for where, node in each_node() if isinstance(node, ast.FunctionDef)]
        for where, node in each_node():
            if isinstance(node, ast.Call) and isinstance(node.func, ast.Attribute):
                self.assertIn(node.func.attr, METHODS + own, where)


if __name__ == "__main__":
    unittest.main()
