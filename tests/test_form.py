"""Rules of the form that can be read off the files of the package: L1, L2, L8, L9, L10, L14, L16, L17."""

import ast
import pathlib
import unittest

FOLDER = pathlib.Path(__file__).resolve().parent.parent / "walkingcut"
LIBRARY = {
    "math": {"gcd", "lcm", "isqrt", "comb", "perm", "factorial"},
    "heapq": {"heappush", "heappop", "heapify", "heapreplace", "heappushpop"},
    "itertools": {
        "product", "combinations", "permutations", "chain", "accumulate", "pairwise", "islice", "zip_longest",
    },
    "collections": {"defaultdict"},
    "__future__": {"annotations"},
}
BUILTINS = set(
    "len range enumerate zip min max sum abs sorted reversed int str bool bytes list tuple dict set frozenset isinstance "
    "ord repr any all divmod pow iter next getattr hasattr setattr super map".split()
)
BARRED_WORDS = set(
    "typing typing_extensions enum Enum IntEnum StrEnum Flag IntFlag Generic Protocol ABC ABCMeta namedtuple NamedTuple "
    "TypedDict TYPE_CHECKING abstractmethod register mro elements open input law".split()
)


def files():
    return sorted(FOLDER.glob("*.py"))


def trees():
    return [(path.name, ast.parse(path.read_text(encoding="ascii"))) for path in files()]


def names_of(tree):
    for node in ast.walk(tree):
        if isinstance(node, ast.Name):
            yield node.id
        elif isinstance(node, ast.Attribute):
            yield node.attr
        elif isinstance(node, ast.arg):
            yield node.arg
        elif isinstance(node, (ast.FunctionDef, ast.ClassDef)):
            yield node.name


class FormTest(unittest.TestCase):
    def test_l1_the_folder_holds_plain_files_alone(self):
        for path in FOLDER.iterdir():
            self.assertTrue(path.name == "__pycache__" or path.suffix == ".py", path.name)
            self.assertEqual(path.name, path.name.lower())
        self.assertTrue((FOLDER / "__init__.py").exists())
        self.assertLessEqual(len(files()), 100)

    def test_l10_sizes(self):
        for path in files():
            lines = path.read_text(encoding="ascii").split("\n")
            self.assertLessEqual(len(lines), 400, path.name)
            self.assertLessEqual(max(len(line) for line in lines), 120, path.name)
        for name, tree in trees():
            for node in ast.walk(tree):
                if isinstance(node, ast.FunctionDef):
                    self.assertLessEqual(node.end_lineno - node.lineno + 1, 40, f"{name} {node.name}")

    def test_l14_characters(self):
        for path in files():
            for sign in path.read_bytes():
                self.assertTrue(sign == 10 or 32 <= sign <= 126, path.name)

    def test_l2_and_l16_imports(self):
        for name, tree in trees():
            for node in ast.walk(tree):
                self.assertNotIsInstance(node, ast.Import, name)
                if isinstance(node, ast.ImportFrom):
                    self.assertEqual(node.level, 0, name)
                    imported = {alias.name for alias in node.names}
                    self.assertTrue(all(alias.asname is None for alias in node.names), name)
                    if node.module in LIBRARY:
                        self.assertLessEqual(imported, LIBRARY[node.module], name)
                    else:
                        self.assertLessEqual(imported, self.bound_in(node.module), name)

    def bound_in(self, module):
        package, _, name = module.partition(".")
        self.assertEqual(package, "walkingcut")
        tree = ast.parse((FOLDER / f"{name}.py").read_text(encoding="ascii"))
        bound = {node.name for node in tree.body if isinstance(node, (ast.FunctionDef, ast.ClassDef))}
        return bound | {target.id for node in tree.body if isinstance(node, ast.Assign) for target in node.targets}

    def test_l16_no_two_files_import_from_each_other(self):
        needs = {}
        for name, tree in trees():
            modules = [node.module for node in tree.body if isinstance(node, ast.ImportFrom)]
            needs[name[:-3]] = {module[len("walkingcut."):] for module in modules if module.startswith("walkingcut.")}
        done = set()
        while len(done) < len(needs):
            ready = {name for name in needs if name not in done and needs[name] <= done}
            self.assertTrue(ready, sorted(set(needs) - done))
            done |= ready

    def test_l15_no_variable_has_the_name_of_an_import_or_a_class(self):
        for name, tree in trees():
            imported = {
                alias.name for node in tree.body if isinstance(node, ast.ImportFrom) for alias in node.names
            } | {node.name for node in tree.body if isinstance(node, ast.ClassDef)}
            for node in ast.walk(tree):
                if isinstance(node, ast.arg):
                    self.assertNotIn(node.arg, imported, name)
                if isinstance(node, ast.Name) and isinstance(node.ctx, ast.Store):
                    self.assertNotIn(node.id, imported, name)

    def test_l8_and_l17_words_that_are_not_used(self):
        builtin = set(dir(__builtins__) if not isinstance(__builtins__, dict) else __builtins__)
        errors_of_python = {name for name in builtin if name.endswith("Error") or name == "Exception"}
        for name, tree in trees():
            used = set(names_of(tree))
            self.assertFalse(used & BARRED_WORDS, name)
            called = {node.id for node in ast.walk(tree) if isinstance(node, ast.Name)}
            self.assertFalse((called & builtin) - BUILTINS - errors_of_python, name)
            stored = {node.id for node in ast.walk(tree) if isinstance(node, ast.Name) and isinstance(node.ctx, ast.Store)}
            stored |= {node.arg for node in ast.walk(tree) if isinstance(node, ast.arg)}
            self.assertFalse(stored & builtin, name)

    def test_l6_and_l7_statements_and_values_that_are_not_used(self):
        barred = (ast.Global, ast.AsyncFunctionDef, ast.Await, ast.Div)
        for name, tree in trees():
            for node in ast.walk(tree):
                self.assertNotIsInstance(node, barred, name)
                if isinstance(node, ast.Constant):
                    self.assertNotIsInstance(node.value, (float, complex), name)

    def test_l7_no_generator_expression_where_a_list_is_asked_for(self):
        for name, tree in trees():
            for node in ast.walk(tree):
                if isinstance(node, ast.Call) and isinstance(node.func, ast.Name):
                    if node.func.id in ("any", "all", "min", "max", "sum", "sorted"):
                        self.assertFalse([part for part in node.args if isinstance(part, ast.GeneratorExp)], name)


if __name__ == "__main__":
    unittest.main()
