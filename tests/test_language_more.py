"""Holds the package's files to more of the rules of the language: those on how names and values are used."""

import ast
import itertools
import tokenize
import unittest

from tests.test_language import FILES, each_node, trees

WALKED_AT_ONCE = ("zip", "enumerate", "reversed", "range")
WALKED_METHODS = ("items", "keys", "values")
WALKERS = ("list", "tuple", "dict", "sorted", "sum", "any", "all", "enumerate", "zip")
KEYWORDS = {"sorted": ("key", "reverse"), "min": ("key", "default"), "max": ("key", "default"),
            "sum": ("start",), "enumerate": ("start",), "zip": ("strict",)}
OWN_CALLED = ("len range enumerate zip min max sum abs sorted reversed int str bool list tuple dict set frozenset "
              "isinstance ord repr any all divmod").split()
TWO_UNDERSCORES = ("__init__", "__eq__", "__repr__", "__str__", "__len__")


def parents(tree):
    return {child: node for node in ast.walk(tree) for child in ast.iter_child_nodes(node)}


def called(node):
    """The name of Python's own or of a function that a call calls, else None."""
    return node.func.id if isinstance(node, ast.Call) and isinstance(node.func, ast.Name) else None


def functions(tree):
    return [node for node in ast.walk(tree) if isinstance(node, ast.FunctionDef)]


class Uses(unittest.TestCase):
    def test_plain_values_as_defaults_and_no_annotations(self):
        for where, node in each_node():
            if isinstance(node, ast.FunctionDef):
                self.assertIsNone(node.returns, where)
                for default in node.args.defaults:
                    self.assertIsInstance(default, ast.Constant, where)
            self.assertNotIsInstance(node, ast.AnnAssign, where)
            if isinstance(node, ast.arg):
                self.assertIsNone(node.annotation, where)

    def test_plain_values_at_a_files_top(self):
        allowed = (ast.Constant, ast.Tuple, ast.List, ast.Dict, ast.Load)
        for path, tree in trees():
            for node in tree.body:
                if isinstance(node, ast.Assign):
                    for inner in ast.walk(node.value):
                        self.assertIsInstance(inner, allowed, f"{path.name}:{node.lineno}")
                    for inner in list(ast.walk(node.value))[1:]:
                        self.assertNotIsInstance(inner, (ast.List, ast.Dict), f"{path.name}:{node.lineno}")

    def test_lists_and_dicts_of_a_files_top_are_only_read(self):
        for path, tree in trees():
            above = parents(tree)
            kept = [node.targets[0].id for node in tree.body
                    if isinstance(node, ast.Assign) and isinstance(node.value, (ast.List, ast.Dict))]
            for node in ast.walk(tree):
                if isinstance(node, ast.Name) and node.id in kept and isinstance(node.ctx, ast.Load):
                    around = above[node]
                    fits = (isinstance(around, ast.Subscript) and isinstance(around.ctx, ast.Load)
                            or isinstance(around, (ast.Compare, ast.For, ast.comprehension))
                            or isinstance(around, ast.Attribute) and around.attr in ("get",) + WALKED_METHODS
                            or called(around) in ("len", "list", "dict", "tuple", "sorted"))
                    self.assertTrue(fits, f"{path.name}:{node.lineno}")

    def test_classes(self):
        for path, tree in trees():
            above = parents(tree)
            names = [node.name for other, whole in trees() for node in whole.body if isinstance(node, ast.ClassDef)]
            for node in ast.walk(tree):
                if isinstance(node, ast.Name) and node.id in names:
                    around = above[node]
                    fits = (isinstance(around, ast.Call) and (around.func is node or called(around) == "isinstance")
                            or isinstance(around, (ast.ClassDef, ast.ExceptHandler, ast.Raise))
                            or isinstance(around, ast.Attribute) and around.attr == "__init__")
                    self.assertTrue(fits, f"{path.name}:{node.lineno}")

    def test_methods_stand_once_and_are_no_values(self):
        values = {node.attr for where, node in each_node()
                  if isinstance(node, ast.Attribute) and isinstance(node.ctx, ast.Store)}
        for where, node in each_node():
            if isinstance(node, ast.ClassDef):
                methods = [inner.name for inner in node.body if isinstance(inner, ast.FunctionDef)]
                self.assertEqual(len(methods), len(set(methods)), where)
                self.assertEqual(set(methods) & values, set(), where)
                for name in methods:
                    self.assertTrue(not name.startswith("_") or name in TWO_UNDERSCORES, where)

    def test_what_is_made_gives_nothing_back(self):
        for where, node in each_node():
            if isinstance(node, ast.FunctionDef) and node.name == "__init__":
                self.assertFalse(any(isinstance(inner, ast.Return) for inner in ast.walk(node)), where)

    def test_errors_are_made_on_the_spot_and_none_of_pythons_own_is_taken(self):
        for where, node in each_node():
            if isinstance(node, ast.Raise):
                self.assertIsInstance(node.exc, ast.Call, where)
                self.assertIsNone(node.cause, where)
            self.assertNotIsInstance(node, ast.Try, where)

    def test_keywords(self):
        for where, node in each_node():
            if isinstance(node, ast.Call):
                for keyword in node.keywords:
                    self.assertIn(keyword.arg, KEYWORDS.get(called(node), ()), where)

    def test_pythons_own_names_are_called(self):
        for path, tree in trees():
            above = parents(tree)
            for node in ast.walk(tree):
                if isinstance(node, ast.Name) and node.id in OWN_CALLED:
                    around = above[node]
                    asked = called(around) == "isinstance" or isinstance(around, ast.keyword)
                    self.assertTrue(called(around) == node.id or asked, f"{path.name}:{node.lineno}")

    def test_methods_are_called_where_they_stand(self):
        for path, tree in trees():
            above = parents(tree)
            methods = {inner.name for node in tree.body if isinstance(node, ast.ClassDef)
                       for inner in node.body if isinstance(inner, ast.FunctionDef)}
            for node in ast.walk(tree):
                if isinstance(node, ast.Attribute) and node.attr in methods | {"append", "get", "split", "join"}:
                    self.assertIs(getattr(above[node], "func", None), node, f"{path.name}:{node.lineno}")

    def test_walked_at_once(self):
        for path, tree in trees():
            above = parents(tree)
            for node in ast.walk(tree):
                walks = called(node) in WALKED_AT_ONCE or (
                    isinstance(node, ast.Call) and isinstance(node.func, ast.Attribute)
                    and node.func.attr in WALKED_METHODS)
                if walks:
                    around = above[node]
                    fits = (isinstance(around, (ast.For, ast.comprehension)) and around.iter is node
                            or called(around) in WALKERS and around.args[0] is node)
                    self.assertTrue(fits, f"{path.name}:{node.lineno}")

    def test_what_a_loop_walks_is_not_changed_in_it(self):
        changes = ("append", "clear", "extend", "insert", "pop", "remove", "reverse", "setdefault", "update")
        for where, node in each_node():
            if isinstance(node, ast.For):
                walked = {ast.dump(inner) for inner in ast.walk(node.iter)
                          if isinstance(inner, (ast.Name, ast.Attribute))}
                for inner in itertools.chain.from_iterable(map(ast.walk, node.body)):
                    if isinstance(inner, ast.Call) and isinstance(inner.func, ast.Attribute):
                        changed = inner.func.attr in changes and ast.dump(inner.func.value) in walked
                        self.assertFalse(changed, where)
                    if isinstance(inner, ast.Subscript) and isinstance(inner.ctx, ast.Store):
                        self.assertNotIn(ast.dump(inner.value), walked, where)

    def test_sets(self):
        for path, tree in trees():
            above = parents(tree)
            for node in ast.walk(tree):
                self.assertNotIsInstance(node, (ast.Set, ast.SetComp, ast.DictComp, ast.GeneratorExp))
                if called(node) in ("set", "frozenset"):
                    around = above[node]
                    fits = called(around) in ("sorted", "len") or isinstance(around, ast.Compare)
                    self.assertTrue(fits, f"{path.name}:{node.lineno}")

    def test_nothing_from_around_is_assigned_and_no_powers(self):
        for where, node in each_node():
            self.assertNotIsInstance(node, (ast.Global, ast.Nonlocal, ast.Starred, ast.NamedExpr), where)
            self.assertFalse(isinstance(node, ast.BinOp) and isinstance(node.op, ast.Pow), where)
            if isinstance(node, ast.Compare):
                for operator, other in zip(node.ops, node.comparators):
                    if isinstance(operator, (ast.Is, ast.IsNot)):
                        self.assertIn(getattr(other, "value", 0), (None, True, False), where)

    def test_a_function_stands_once_in_a_file_and_is_used(self):
        used = {node.id for where, node in each_node() if isinstance(node, ast.Name)}
        used |= {node.attr for where, node in each_node() if isinstance(node, ast.Attribute)}
        promised = ("right_of hand_row house_row read_table table_text start clash renamed thinned may stuck step play "
                    "plain first_wrong mark_of config_of start_shape shape_of lies_in is_within may_clash "
                    "may_be_stuck after checked find_paper find_run shape_text paper_text deeds_text read_paper "
                    "read_deeds say __init__").split()
        for path, tree in trees():
            names = [node.name for node in tree.body if isinstance(node, (ast.FunctionDef, ast.ClassDef))]
            self.assertEqual(len(names), len(set(names)), path.name)
            for node in functions(tree):
                self.assertIn(node.name, used | set(promised), path.name)

    def test_imports_are_used(self):
        for path, tree in trees():
            imported = [name.name for node in tree.body if isinstance(node, ast.ImportFrom) for name in node.names]
            used = {node.id for node in ast.walk(tree) if isinstance(node, ast.Name)}
            self.assertEqual(set(imported) - used, set(), path.name)

    def test_escapes(self):
        for path in FILES:
            with open(path, "rb") as source:
                for token in tokenize.tokenize(source.readline):
                    if token.type == tokenize.STRING:
                        rest = token.string.replace("\\\\", "").replace("\\n", "").replace("\\t", "")
                        self.assertNotRegex(rest, r"\\[^'\"]", f"{path.name}:{token.start[0]}")
                        self.assertNotRegex(token.string, r"\A[rRbBuU]", f"{path.name}:{token.start[0]}")


if __name__ == "__main__":
    unittest.main()
