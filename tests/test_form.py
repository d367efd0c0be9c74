"""The form of the package: those rules of its language that can be told from the files alone."""

import ast
import builtins
import os
import re
import unittest

import onceseen

FOLDER = os.path.dirname(onceseen.__file__)
FILES = sorted(name for name in os.listdir(FOLDER) if name != "__pycache__")

CALLED = {
    "len", "range", "enumerate", "zip", "min", "max", "sum", "abs", "sorted", "reversed", "int", "str", "bool", "list",
    "tuple", "dict", "set", "isinstance", "ord", "repr", "any", "all", "divmod", "pow", "map", "iter", "next", "type",
    "getattr", "hasattr", "setattr", "super",
}
DECORATORS = {"property", "classmethod", "staticmethod"}
LIBRARY = {"heapq", "math", "itertools", "collections", "sys", "__future__"}


def read(name):
    with open(os.path.join(FOLDER, name), encoding="utf-8") as file:
        return file.read()


def trees():
    return [(name, ast.parse(read(name))) for name in FILES]


def nodes(kind):
    return [(name, node) for name, tree in trees() for node in ast.walk(tree) if isinstance(node, kind)]


def defined(tree):
    """The names that a file itself defines at its top."""
    return [node.name for node in tree.body if isinstance(node, (ast.FunctionDef, ast.ClassDef))]


class Files(unittest.TestCase):

    def test_the_folder_holds_plain_python_files_alone(self):
        self.assertIn("__init__.py", FILES)
        for name in FILES:
            self.assertTrue(name == "__init__.py" or re.fullmatch(r"[a-z][a-z0-9_]*\.py", name), name)

    def test_sizes_and_characters(self):
        for name in FILES:
            text = read(name)
            self.assertTrue(text.endswith("\n") and len(text.split("\n")) <= 400, name)
            self.assertTrue(all(sign == "\n" or " " <= sign <= "~" for sign in text), name)
            self.assertLessEqual(max(map(len, text.split("\n"))), 120, name)

    def test_functions_have_at_most_40_lines(self):
        for name, node in nodes(ast.FunctionDef):
            self.assertLess(node.end_lineno - node.lineno, 40, (name, node.name))


class Parts(unittest.TestCase):

    def test_imports_name_the_file_that_defines(self):
        homes = {f"onceseen.{name[:-3]}": defined(tree) for name, tree in trees()}
        self.assertEqual(nodes(ast.Import), [])
        for name, node in nodes(ast.ImportFrom):
            self.assertEqual(node.level, 0, name)
            if node.module not in LIBRARY:
                for alias in node.names:
                    self.assertIsNone(alias.asname, name)
                    self.assertIn(alias.name, homes[node.module], name)

    def test_modules_hold_definitions_and_plain_names_alone(self):
        for name, tree in trees():
            for node in tree.body[1:]:
                self.assertIsInstance(node, (ast.ImportFrom, ast.FunctionDef, ast.ClassDef, ast.Assign), name)
            self.assertIsNotNone(ast.get_docstring(tree), name)

    def test_decorators(self):
        for name, node in nodes((ast.FunctionDef, ast.ClassDef)):
            for decorator in node.decorator_list:
                setter = isinstance(decorator, ast.Attribute) and decorator.attr == "setter"
                self.assertTrue(setter or decorator.id in DECORATORS, (name, node.name))

    def test_only_builtins_of_the_language_are_called(self):
        for name, node in nodes(ast.Call):
            if isinstance(node.func, ast.Name) and hasattr(builtins, node.func.id):
                self.assertTrue(node.func.id in CALLED or node.func.id.endswith("Error"), (name, node.func.id))

    def test_literals(self):
        for name, node in nodes(ast.Constant):
            self.assertNotIsInstance(node.value, (float, complex), name)
            self.assertFalse(isinstance(node.value, str) and "%" in node.value, name)

    def test_statements_and_signs_that_are_left_out(self):
        left_out = (ast.AsyncFunctionDef, ast.AsyncFor, ast.AsyncWith, ast.Await, ast.Div)
        self.assertEqual([name for name, _ in nodes(left_out)], [])


if __name__ == "__main__":
    unittest.main()
