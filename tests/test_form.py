"""The form of the package: what of the rules of its language can be seen line by line."""

import ast
import builtins
import os
import unittest

ROOT = os.path.dirname(os.path.dirname(os.path.abspath(__file__)))
PACKAGE = os.path.join(ROOT, "hourcards")
LIBRARY = ("heapq", "math", "itertools")
BUILTINS = (
    "len range enumerate zip min max sum abs sorted reversed int str bool list tuple dict set frozenset isinstance ord "
    "repr any all divmod iter next map Exception ValueError TypeError KeyError IndexError LookupError "
    "ZeroDivisionError NotImplemented"
).split()
METHODS = "__init__ __eq__ __repr__ __str__ __len__".split()
AT_MODULE_LEVEL = (ast.ImportFrom, ast.FunctionDef, ast.ClassDef, ast.Assign)


def files():
    return [name for name in sorted(os.listdir(PACKAGE)) if name != "__pycache__"]


def text_of(name):
    with open(os.path.join(PACKAGE, name), "rb") as source:
        return source.read().decode("utf-8")


class Form(unittest.TestCase):

    def each_node(self):
        for name in files():
            for node in ast.walk(ast.parse(text_of(name))):
                yield name, node

    def test_the_folder_contains_plain_files_alone(self):
        for name in files():
            with self.subTest(name):
                self.assertRegex(name, r"\A[a-z0-9_]+\.py\Z")
        self.assertIn("__init__.py", files())

    def test_sizes_and_characters(self):
        for name in files():
            text = text_of(name)
            with self.subTest(name):
                self.assertLess(len(text.split("\n")), 400)
                self.assertLessEqual(max([len(line) for line in text.split("\n")]), 120)
                self.assertEqual([sign for sign in text if sign != "\n" and not " " <= sign <= "~"], [])

    def test_functions_have_at_most_forty_lines(self):
        for name, node in self.each_node():
            if isinstance(node, ast.FunctionDef):
                with self.subTest(name, function=node.name):
                    self.assertLessEqual(node.end_lineno - node.lineno + 1, 40)

    def test_module_level(self):
        for name in files():
            for at, node in enumerate(ast.parse(text_of(name)).body):
                if at or not isinstance(node, ast.Expr):
                    with self.subTest(name, line=node.lineno):
                        self.assertIsInstance(node, AT_MODULE_LEVEL)

    def test_imports_are_from_the_package_or_the_library(self):
        for name, node in self.each_node():
            if isinstance(node, ast.ImportFrom):
                with self.subTest(name, line=node.lineno):
                    self.assertEqual(node.level, 0)
                    self.assertTrue(node.module in LIBRARY or node.module.startswith("hourcards."))

    def test_no_name_is_bound_that_a_builtin_has(self):
        names = vars(builtins)
        for name, node in self.each_node():
            bound = []
            if isinstance(node, ast.Name) and not isinstance(node.ctx, ast.Load):
                bound = [node.id]
            elif isinstance(node, ast.arg):
                bound = [node.arg]
            for found in bound:
                with self.subTest(name, line=node.lineno):
                    self.assertNotIn(found, names)

    def test_no_other_builtin_is_used(self):
        names = vars(builtins)
        for name, node in self.each_node():
            if isinstance(node, ast.Name) and node.id in names:
                with self.subTest(name, line=node.lineno):
                    self.assertIn(node.id, BUILTINS)

    def test_expressions_that_the_language_has_not(self):
        for name, node in self.each_node():
            with self.subTest(name, line=getattr(node, "lineno", 0)):
                self.assertNotIsInstance(node, (ast.Global, ast.AsyncFunctionDef, ast.Await, ast.Div))
                if isinstance(node, ast.Constant):
                    self.assertNotIsInstance(node.value, (float, complex))
                    self.assertFalse(isinstance(node.value, str) and "%" in node.value)
                if isinstance(node, ast.FunctionDef) and node.name.startswith("__"):
                    self.assertIn(node.name, METHODS)


if __name__ == "__main__":
    unittest.main()
