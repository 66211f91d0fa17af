"""The form of the package: what of the rules of its language can be seen line by line."""

import ast
import builtins
import os
import unittest

ROOT = os.path.dirname(os.path.dirname(os.path.abspath(__file__)))
PACKAGE = os.path.join(ROOT, "hourcards")
LIBRARY = ("heapq", "math", "itertools")
BUILTINS = (
    "len range enumerate zip min max sum abs sorted reversed int str bool list tuple dict set frozenset isinstance ord "
    "repr any all divmod bytes iter next map Exception ValueError TypeError KeyError IndexError LookupError "
    "ZeroDivisionError NotImplemented"
).split()
METHODS = "__init__ __eq__ __repr__ __str__ __len__".split()
BUILTIN_METHODS = (
    "append clear copy count endswith extend find get index insert isalnum isalpha isdigit islower isspace isupper items "
    "join keys ljust lower lstrip partition pop remove replace reverse rfind rjust rpartition rsplit rstrip setdefault "
    "split splitlines startswith strip update upper values zfill bit_length"
).split()
BARRED_ATTRIBUTES = (
    "items keys values pop update append clear extend insert remove reverse setdefault sort args encode decode hex "
    "fromhex format format_map mro"
).split()
BARRED_WORDS = (
    "register mro elements open input law version_info with_traceback add_note type typing enum attrgetter breakpoint "
    "builtins compile copyright credits delattr dir eval exec exit gc getattr globals hasattr help id importlib license "
    "locals methodcaller os quit setattr super vars sys property staticmethod classmethod"
).split()
AT_MODULE_LEVEL = (ast.ImportFrom, ast.FunctionDef, ast.ClassDef, ast.Assign)


def files():
    return [name for name in sorted(os.listdir(PACKAGE)) if name != "__pycache__"]


def text_of(name):
    with open(os.path.join(PACKAGE, name), "rb") as source:
        return source.read().decode("utf-8")


class Form(unittest.TestCase):

    def each_node(self):
        for name in files():
            for node in ast.walk(ast.parse(text_of(name))):
                yield name, node

    def test_the_folder_contains_plain_files_alone(self):
        for name in files():
            with self.subTest(name):
                self.assertRegex(name, r"\A[a-z0-9_]+\.py\Z")
        self.assertIn("__init__.py", files())

    def test_sizes_and_characters(self):
        for name in files():
            text = text_of(name)
            with self.subTest(name):
                self.assertLess(len(text.split("\n")), 400)
                self.assertLessEqual(max([len(line) for line in text.split("\n")]), 120)
                self.assertEqual([sign for sign in text if sign != "\n" and not " " <= sign <= "~"], [])

    def test_functions_have_at_most_forty_lines(self):
        for name, node in self.each_node():
            if isinstance(node, ast.FunctionDef):
                with self.subTest(name, function=node.name):
                    self.assertLessEqual(node.end_lineno - node.lineno + 1, 40)

    def test_module_level(self):
        for name in files():
            for at, node in enumerate(ast.parse(text_of(name)).body):
                if at or not isinstance(node, ast.Expr):
                    with self.subTest(name, line=node.lineno):
                        self.assertIsInstance(node, AT_MODULE_LEVEL)

    def test_imports_are_from_the_package_or_the_library(self):
        for name, node in self.each_node():
            if isinstance(node, ast.ImportFrom):
                with self.subTest(name, line=node.lineno):
                    self.assertEqual(node.level, 0)
                    self.assertTrue(node.module in LIBRARY or node.module.startswith("hourcards."))

    def test_no_name_is_bound_that_a_builtin_has(self):
        names = vars(builtins)
        for name, node in self.each_node():
            bound = []
            if isinstance(node, ast.Name) and not isinstance(node.ctx, ast.Load):
                bound = [node.id]
            elif isinstance(node, ast.arg):
                bound = [node.arg]
            for found in bound:
                with self.subTest(name, line=node.lineno):
                    self.assertNotIn(found, names)

    def test_no_other_builtin_is_used(self):
        names = vars(builtins)
        for name, node in self.each_node():
            if isinstance(node, ast.Name) and node.id in names:
                with self.subTest(name, line=node.lineno):
                    self.assertIn(node.id, BUILTINS)

    def test_expressions_that_the_language_has_not(self):
        for name, node in self.each_node():
            with self.subTest(name, line=getattr(node, "lineno", 0)):
                self.assertNotIsInstance(node, (ast.Global, ast.AsyncFunctionDef, ast.Await, ast.Div, ast.GeneratorExp))
                if isinstance(node, ast.Constant):
                    self.assertNotIsInstance(node.value, (float, complex))
                    self.assertFalse(isinstance(node.value, str) and "%" in node.value)
                if isinstance(node, ast.FunctionDef) and node.name.startswith("__"):
                    self.assertIn(node.name, METHODS)

    def test_names_bound_in_a_file_are_not_bound_again_in_its_functions(self):
        for name in files():
            tree = ast.parse(text_of(name))
            known = [alias.name for node in tree.body if isinstance(node, ast.ImportFrom) for alias in node.names]
            known += [node.name for node in tree.body if isinstance(node, ast.ClassDef)]
            bound = [node.arg for node in ast.walk(tree) if isinstance(node, ast.arg)]
            bound += [node.id for node in ast.walk(tree) if isinstance(node, ast.Name) and isinstance(node.ctx, ast.Store)]
            with self.subTest(name):
                self.assertEqual(sorted(set(known) & set(bound)), [])
                top = [node.name for node in tree.body if isinstance(node, (ast.FunctionDef, ast.ClassDef))]
                top += [target.id for node in tree.body if isinstance(node, ast.Assign) for target in node.targets]
                top += [alias.name for node in tree.body if isinstance(node, ast.ImportFrom) for alias in node.names]
                self.assertEqual(len(top), len(set(top)))

    def test_imports_name_the_file_that_defines(self):
        defined = {}
        needs = {}
        for name in files():
            tree = ast.parse(text_of(name))
            module = "hourcards." + name[:-3]
            defined[module] = [node.name for node in tree.body if isinstance(node, (ast.FunctionDef, ast.ClassDef))]
            defined[module] += [target.id for node in tree.body if isinstance(node, ast.Assign) for target in node.targets]
            needs[module] = [node for node in tree.body if isinstance(node, ast.ImportFrom) and node.module not in LIBRARY]
        for module, nodes in needs.items():
            for node in nodes:
                for alias in node.names:
                    with self.subTest(module, line=node.lineno):
                        self.assertIn(alias.name, defined[node.module])
                        self.assertIsNone(alias.asname)
        # No two files need each other.
        left = {module: {node.module for node in nodes} for module, nodes in needs.items()}
        while left:
            free = [module for module, others in left.items() if not others & set(left)]
            self.assertTrue(free, left)
            left = {module: others for module, others in left.items() if module not in free}

    def test_what_is_imported_is_used(self):
        for name in files():
            tree = ast.parse(text_of(name))
            used = {node.id for node in ast.walk(tree) if isinstance(node, ast.Name)}
            for node in tree.body:
                if isinstance(node, ast.ImportFrom):
                    with self.subTest(name, line=node.lineno):
                        self.assertEqual([alias.name for alias in node.names if alias.name not in used], [])

    def test_methods_and_attributes(self):
        own, attributes = set(), set()
        for name, node in self.each_node():
            if isinstance(node, ast.ClassDef):
                methods = [part.name for part in node.body if isinstance(part, ast.FunctionDef)]
                held = {part.attr for part in ast.walk(node) if isinstance(part, ast.Attribute)
                        and isinstance(part.ctx, ast.Store)}
                with self.subTest(name, called=node.name):
                    self.assertEqual(len(methods), len(set(methods)))
                    self.assertEqual(held & set(methods), set())
                own |= set(methods)
                attributes |= held
        self.assertEqual(attributes & set(BARRED_ATTRIBUTES), set())
        self.assertEqual(own & attributes, set())
        for name, node in self.each_node():
            if isinstance(node, ast.Call) and isinstance(node.func, ast.Attribute):
                with self.subTest(name, line=node.lineno):
                    self.assertTrue(node.func.attr in own or node.func.attr in BUILTIN_METHODS)
            elif isinstance(node, ast.Attribute) and isinstance(node.ctx, ast.Load):
                with self.subTest(name, line=node.lineno):
                    self.assertIn(node.attr, attributes | own | set(BUILTIN_METHODS))

    def test_is_stands_with_none_true_and_false(self):
        for name, node in self.each_node():
            if isinstance(node, ast.Compare):
                for sign, side in zip(node.ops, node.comparators):
                    if isinstance(sign, (ast.Is, ast.IsNot)):
                        with self.subTest(name, line=node.lineno):
                            self.assertTrue(isinstance(side, ast.Constant) and side.value in (None, True, False))

    def test_iterators_are_iterated_at_once(self):
        for name in files():
            tree = ast.parse(text_of(name))
            right = set()
            for node in ast.walk(tree):
                if isinstance(node, (ast.For, ast.comprehension)):
                    right.add(node.iter)
                elif isinstance(node, ast.Call) and isinstance(node.func, ast.Name) and node.args and (
                        node.func.id in ("list", "tuple", "dict", "sorted", "sum", "any", "all", "enumerate", "zip", "min", "max")):
                    right |= set(node.args)
                elif isinstance(node, ast.Call) and isinstance(node.func, ast.Name) and node.func.id == "reversed":
                    right |= {arg for arg in node.args if isinstance(arg, ast.Call) and isinstance(arg.func, ast.Name)
                              and arg.func.id == "range"}
            for node in ast.walk(tree):
                if isinstance(node, ast.Call):
                    called = node.func.id if isinstance(node.func, ast.Name) else getattr(node.func, "attr", "")
                    if called in ("zip", "enumerate", "reversed", "range", "items", "keys", "values", "combinations"):
                        with self.subTest(name, line=node.lineno):
                            self.assertIn(node, right)

    def test_words_that_do_not_occur(self):
        for name in files():
            # Docstrings and comments may have them.
            tree = ast.parse(text_of(name))
            words = set()
            for node in ast.walk(tree):
                for field in ("id", "arg", "attr", "name"):
                    if isinstance(getattr(node, field, None), str):
                        words.add(getattr(node, field))
            with self.subTest(name):
                self.assertEqual(words & set(BARRED_WORDS), set())
                self.assertEqual([word for word in words if word.startswith("__") and word not in METHODS], [])


if __name__ == "__main__":
    unittest.main()
