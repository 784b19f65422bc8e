"""More rules of the form: L3 to L7, L12, L15, L18 to L28, as far as the parsed files show them."""

import ast
import re
import unittest

from tests.test_form import trees

# Fewer than the rules allow: what the package uses.
STATEMENTS = (
    ast.Assign, ast.AugAssign, ast.If, ast.While, ast.For, ast.Return, ast.Raise, ast.Delete, ast.Expr, ast.Try, ast.Pass,
    ast.FunctionDef, ast.ClassDef, ast.ImportFrom,
)
AT_ONCE = ("zip", "enumerate", "reversed", "range", "items", "keys", "values")
TAKERS = ("list", "tuple", "dict", "sorted", "sum", "any", "all", "enumerate", "zip", "min", "max")
METHODS = set(
    "append clear copy count endswith extend find get index insert isalnum isalpha isdigit islower isspace isupper items "
    "join keys ljust lower lstrip partition pop remove replace reverse rfind rjust rpartition rsplit rstrip setdefault "
    "split splitlines startswith strip update upper values zfill bit_length title capitalize swapcase casefold isascii "
    "isdecimal isnumeric removeprefix removesuffix rindex".split()
)
BUILTIN_ATTRIBUTES = {name for kind in (str, int, list, dict, set, tuple, bytes) for name in dir(kind)}


def parents(tree):
    return {child: node for node in ast.walk(tree) for child in ast.iter_child_nodes(node)}


def called(node):
    """The name by which a call calls."""
    if isinstance(node, ast.Call) and isinstance(node.func, ast.Name):
        return node.func.id
    return node.func.attr if isinstance(node, ast.Call) and isinstance(node.func, ast.Attribute) else None


def functions_of(tree):
    return [node for node in ast.walk(tree) if isinstance(node, ast.FunctionDef)]


class FormRulesTest(unittest.TestCase):
    def test_l3_and_l15_the_module_level(self):
        for name, tree in trees():
            bound = []
            for at, node in enumerate(tree.body):
                if isinstance(node, ast.ImportFrom):
                    bound.extend(alias.name for alias in node.names)
                elif isinstance(node, (ast.FunctionDef, ast.ClassDef)):
                    bound.append(node.name)
                elif isinstance(node, ast.Assign):
                    self.assertEqual(len(node.targets), 1, name)
                    self.assertIsInstance(node.targets[0], ast.Name, name)
                    bound.append(node.targets[0].id)
                    self.assertFalse([part for part in ast.walk(node.value) if isinstance(part, ast.Call)], name)
                else:
                    self.assertTrue(at == 0 and isinstance(node, ast.Expr) and isinstance(node.value, ast.Constant), name)
            self.assertEqual(len(bound), len(set(bound)), name)

    def test_l4_and_l5_and_l28_functions_and_classes(self):
        for name, tree in trees():
            for node in functions_of(tree):
                self.assertFalse(node.decorator_list, name)
                self.assertFalse(node.args.defaults or node.args.kw_defaults or node.args.vararg or node.args.kwarg, name)
                if node.name.startswith("__"):
                    self.assertIn(node.name, ("__init__", "__eq__"), name)
                if node.name == "__init__":
                    self.assertFalse([part for part in ast.walk(node) if isinstance(part, ast.Return)], name)
            for node in ast.walk(tree):
                if isinstance(node, ast.ClassDef):
                    self.assertFalse(node.decorator_list or node.keywords, name)
                    self.assertLessEqual(len(node.bases), 1, name)

    def test_l6_statements_and_what_stands_in_a_finally(self):
        for name, tree in trees():
            for node in ast.walk(tree):
                if isinstance(node, ast.stmt):
                    self.assertIsInstance(node, STATEMENTS, name)
                if isinstance(node, ast.Try):
                    self.assertFalse(node.handlers or node.orelse, name)
                    for part in node.finalbody:
                        self.assertIsInstance(part, ast.Assign, name)
                        self.assertIsInstance(part.value, (ast.Name, ast.Attribute), name)

    def test_l7_no_generators(self):
        for name, tree in trees():
            for node in ast.walk(tree):
                self.assertNotIsInstance(node, (ast.GeneratorExp, ast.Yield, ast.YieldFrom, ast.NamedExpr), name)

    def test_l12_names(self):
        for name, tree in trees():
            for node in ast.walk(tree):
                told = getattr(node, "id", None) or getattr(node, "attr", None) or getattr(node, "arg", None)
                if isinstance(node, (ast.FunctionDef, ast.ClassDef)):
                    told = node.name
                if isinstance(told, str) and told not in ("__init__", "__eq__"):
                    self.assertTrue(re.fullmatch("_|_?[A-Za-z][A-Za-z0-9_]*", told), f"{name} {told}")
                    self.assertFalse(re.match("_(wall|pe_|dcw_|enum_|cm_|twin_re_|lay_|law_|stub_|sre|WallAttr)", told), told)
                if isinstance(node, ast.Name) and node.id == "_":
                    self.assertIsInstance(node.ctx, ast.Store, name)

    def test_l18_no_name_is_a_method_and_an_attribute(self):
        methods, attributes = set(), set()
        for _, tree in trees():
            for node in ast.walk(tree):
                if isinstance(node, ast.ClassDef):
                    own = [part.name for part in node.body if isinstance(part, ast.FunctionDef)]
                    self.assertEqual(len(own), len(set(own)))
                    methods |= set(own)
                if isinstance(node, ast.Attribute) and isinstance(node.ctx, ast.Store):
                    attributes.add(node.attr)
                    self.assertIsInstance(node.value, ast.Name)
        self.assertFalse(methods & attributes)
        self.assertFalse((methods | attributes) & (BUILTIN_ATTRIBUTES - {"copy", "__init__", "__eq__"}))
        for name, tree in trees():
            for node in ast.walk(tree):
                if isinstance(node, ast.Attribute) and isinstance(node.ctx, ast.Load):
                    self.assertIn(node.attr, methods | attributes | METHODS, name)

    def test_l19_errors_are_raised_on_the_spot(self):
        for name, tree in trees():
            for node in ast.walk(tree):
                if isinstance(node, ast.Raise):
                    self.assertIsNone(node.cause, name)
                    self.assertIsInstance(node.exc, ast.Call, name)
                    self.assertIsInstance(node.exc.func, ast.Name, name)

    def test_l20_and_l21_is_and_annotations(self):
        for name, tree in trees():
            for node in ast.walk(tree):
                self.assertNotIsInstance(node, ast.AnnAssign, name)
                self.assertIsNone(getattr(node, "annotation", None), name)
                self.assertIsNone(getattr(node, "returns", None), name)
                if isinstance(node, ast.Compare) and any(isinstance(sign, (ast.Is, ast.IsNot)) for sign in node.ops):
                    self.assertIsInstance(node.comparators[-1], ast.Constant, name)

    def test_l23_iterated_at_once(self):
        for name, tree in trees():
            above = parents(tree)
            for node in ast.walk(tree):
                if called(node) in AT_ONCE:
                    taker = above[node]
                    loop = isinstance(taker, (ast.For, ast.comprehension)) and taker.iter is node
                    first = called(taker) in TAKERS and taker.args[0] is node
                    mixed = called(taker) in ("combinations", "reversed") and called(node) == "range"
                    self.assertTrue(loop or first or mixed, f"{name} {node.lineno}")

    def test_l24_sets_stand_in_sorted_or_len_alone(self):
        for name, tree in trees():
            above = parents(tree)
            for node in ast.walk(tree):
                if isinstance(node, (ast.Set, ast.SetComp)) or called(node) in ("set", "frozenset"):
                    self.assertIn(called(above[node]), ("sorted", "len"), f"{name} {node.lineno}")

    def test_l27_numbers_and_strings(self):
        for name, tree in trees():
            for node in ast.walk(tree):
                if isinstance(node, ast.Constant) and isinstance(node.value, str):
                    self.assertNotIn(chr(37), node.value, name)
                if isinstance(node, ast.BinOp) and isinstance(node.op, ast.Pow):
                    self.assertIsInstance(node.right, ast.Constant, name)


if __name__ == "__main__":
    unittest.main()
