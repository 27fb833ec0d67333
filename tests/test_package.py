"""The interface as a whole: where its names stand, their arguments, and the form of the files."""

import ast
import importlib
import inspect
import os
import unittest

ROOT = os.path.dirname(os.path.dirname(os.path.abspath(__file__)))
PACKAGE = os.path.join(ROOT, "backasked")

# What has landed of the interface: file, name, arguments in their order.
LISTED = (
    ("errors", "InvalidStore", ("index",)),
    ("errors", "InvalidQuestion", ("part",)),
    ("errors", "InvalidProgram", ("index",)),
    ("errors", "InvalidWishes", ("index",)),
    ("errors", "InvalidOptions", ("index",)),
    ("errors", "InvalidClaim", ("part",)),
    ("errors", "ParseError", ("line",)),
    ("errors", "NothingDone", ()),
    ("errors", "Refused", ("index",)),
    ("errors", "Banned", ("index", "things")),
    ("errors", "Unfounded", ("fault",)),
    ("errors", "LimitExceeded", ("limit",)),
    ("stores", "is_fact", ("kinds", "value")),
    ("stores", "require_store", ("kinds", "value")),
    ("stores", "are_among", ("facts", "others")),
    ("questions", "require_question", ("kinds", "value")),
    ("questions", "variables_of", ("part",)),
    ("questions", "known_things", ("question",)),
    ("questions", "known_by", ("questions",)),
    ("questions", "question_of", ("kinds", "kind")),
    ("questions", "no_ban", ()),
)
# LANGUAGE.md, L2 The library: nothing else from outside may be imported.
OUTSIDE = ("__future__", "heapq", "math", "itertools", "collections")


def package_files():
    """The names of the files of the package, without what Python itself keeps beside them."""
    return sorted(name for name in os.listdir(PACKAGE) if name != "__pycache__")


def source(name):
    with open(os.path.join(PACKAGE, name), encoding="utf-8", newline="") as file:
        return file.read()


class InterfaceTest(unittest.TestCase):
    def test_each_name_is_defined_in_its_file(self):
        for file, name, _ in LISTED:
            with self.subTest(name=name):
                tree = ast.parse(source(file + ".py"))
                defined = [node.name for node in tree.body if isinstance(node, (ast.FunctionDef, ast.ClassDef))]
                self.assertEqual(defined.count(name), 1)

    def test_arguments(self):
        for file, name, arguments in LISTED:
            with self.subTest(name=name):
                found = getattr(importlib.import_module("backasked." + file), name)
                parameters = inspect.signature(found).parameters.values()
                self.assertEqual(tuple(each.name for each in parameters), arguments)
                for each in parameters:
                    self.assertEqual(each.kind, inspect.Parameter.POSITIONAL_OR_KEYWORD)
                    self.assertIs(each.default, inspect.Parameter.empty)


class FilesTest(unittest.TestCase):
    def test_only_python_files(self):
        for name in package_files():
            self.assertRegex(name, r"\A[a-z_]+\.py\Z")
        self.assertIn("__init__.py", package_files())

    def test_imports(self):
        for name in package_files():
            for node in ast.walk(ast.parse(source(name))):
                self.assertNotIsInstance(node, ast.Import)
                if isinstance(node, ast.ImportFrom):
                    self.assertEqual(node.level, 0)
                    self.assertIn(node.module.split(".")[0], ("backasked", *OUTSIDE))

    def test_sizes_and_characters(self):
        for name in package_files():
            text = source(name)
            lines = text.split("\n")
            self.assertLessEqual(len(lines) - 1, 399, name)
            self.assertLessEqual(max(len(line) for line in lines), 120, name)
            self.assertEqual([sign for sign in text if sign != "\n" and not " " <= sign <= "~"], [], name)
            for node in ast.walk(ast.parse(text)):
                if isinstance(node, ast.FunctionDef):
                    self.assertLessEqual(node.end_lineno - node.lineno + 1, 40, (name, node.name))


if __name__ == "__main__":
    unittest.main()
