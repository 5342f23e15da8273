"""Rules of the language that a short test can see: files, sizes, characters, imports and builtins."""

import ast
import builtins
import os
import unittest

ROOT = os.path.dirname(os.path.dirname(os.path.abspath(__file__)))
PACKAGE = os.path.join(ROOT, "topmatches")
BUILTINS = {
    "len", "range", "enumerate", "zip", "min", "max", "sum", "abs", "sorted", "reversed", "int", "str", "bool",
    "list", "tuple", "dict", "set", "isinstance", "ord", "repr", "any", "all", "divmod", "super", "property",
    "classmethod",
    "ValueError", "TypeError", "KeyError", "IndexError", "NotImplemented",
}
# What L2 lets a file import from outside of the package, as far as the package does.
LIBRARY = {"math": {"comb", "factorial"}}
NODES = (
    ast.Global, ast.AsyncFunctionDef, ast.AsyncFor, ast.AsyncWith, ast.Await, ast.Div, ast.MatMult, ast.Import,
    # A class has __eq__: then any, all and the like take a list.
    ast.GeneratorExp, ast.Try, ast.Yield, ast.YieldFrom,
)


def sources():
    found = {}
    for name in sorted(os.listdir(PACKAGE)):
        if name != "__pycache__":
            with open(os.path.join(PACKAGE, name), encoding="ascii") as file:
                found[name] = file.read()
    return found


def imported(tree):
    return [node for node in ast.walk(tree) if isinstance(node, ast.ImportFrom)]


def defined(tree):
    """The names that a file defines itself."""
    found = {part.name for part in tree.body if isinstance(part, (ast.FunctionDef, ast.ClassDef))}
    assigned = [target for part in tree.body if isinstance(part, ast.Assign) for target in part.targets]
    return found | {target.id for target in assigned}


class LanguageTest(unittest.TestCase):
    def setUp(self):
        self.sources = sources()
        self.trees = {name: ast.parse(text) for name, text in self.sources.items()}

    def test_files(self):
        self.assertIn("__init__.py", self.sources)
        for name, text in self.sources.items():
            self.assertRegex(name, r"\A[a-z_]+\.py\Z")
            self.assertLessEqual(len(text.splitlines()), 399)
            self.assertRegex(text, r"\A[ -~\n]*\n\Z")
            for line in text.splitlines():
                self.assertLessEqual(len(line), 120)

    def test_functions(self):
        for name, tree in self.trees.items():
            for node in ast.walk(tree):
                self.assertNotIsInstance(node, NODES, name)
                if isinstance(node, ast.FunctionDef):
                    self.assertLessEqual(node.end_lineno - node.lineno + 1, 40, node.name)

    def test_decorators_and_sets(self):
        for name, tree in self.trees.items():
            for node in ast.walk(tree):
                if isinstance(node, ast.FunctionDef):
                    for decorator in node.decorator_list:
                        self.assertIn(decorator.id, ["property", "classmethod"], node.name)
                # A class has a method add: then no set is filled by that name.
                if isinstance(node, ast.Attribute) and node.attr in ("add", "discard"):
                    self.assertEqual(node.value.id, "notebook", name)

    def test_module_level(self):
        allowed = (ast.ImportFrom, ast.FunctionDef, ast.ClassDef, ast.Assign)
        for name, tree in self.trees.items():
            self.assertTrue(ast.get_docstring(tree), name)
            for node in tree.body[1:]:
                self.assertIsInstance(node, allowed, name)

    def test_imports_name_files_of_the_package_and_make_no_circle(self):
        reached = {}
        for name, tree in self.trees.items():
            reached[name] = set()
            for node in imported(tree):
                self.assertEqual(node.level, 0)
                names = {alias.name for alias in node.names}
                if names <= LIBRARY.get(node.module, set()):
                    continue
                package, _, module = node.module.partition(".")
                self.assertEqual(package, "topmatches")
                self.assertIn(module + ".py", self.sources)
                self.assertLessEqual(names, defined(self.trees[module + ".py"]))
                reached[name].add(module + ".py")
        for _ in reached:
            for name in reached:
                reached[name] = reached[name].union(*[reached[other] for other in reached[name]])
        for name in reached:
            self.assertNotIn(name, reached[name])

    def test_builtins(self):
        known = {name for name in dir(builtins) if not name.startswith("_")}
        for name, tree in self.trees.items():
            for node in ast.walk(tree):
                if isinstance(node, ast.Name) and node.id in known:
                    self.assertIn(node.id, BUILTINS, name)
                if isinstance(node, ast.Name) and isinstance(node.ctx, ast.Store):
                    self.assertNotIn(node.id, known, name)


if __name__ == "__main__":
    unittest.main()
