"""The interface as a whole: where its names stand, their arguments, and the form of the files."""

import ast
import builtins
import doctest
import importlib
import inspect
import os
import unittest

ROOT = os.path.dirname(os.path.dirname(os.path.abspath(__file__)))
PACKAGE = os.path.join(ROOT, "backasked")

# The interface: file, name, arguments in their order; those after "*" are given by name alone.
LISTED = (
    ("errors", "InvalidStore", ("index",)),
    ("errors", "InvalidQuestion", ("part",)),
    ("errors", "InvalidProgram", ("index",)),
    ("errors", "InvalidWishes", ("index",)),
    ("errors", "InvalidOptions", ("index",)),
    ("errors", "InvalidClaim", ("part",)),
    ("errors", "ParseError", ("line",)),
    ("errors", "NothingDone", ()),
    ("errors", "Refused", ("index",)),
    ("errors", "Banned", ("index", "things")),
    ("errors", "Unfounded", ("fault",)),
    ("errors", "LimitExceeded", ("limit",)),
    ("stores", "is_fact", ("kinds", "value")),
    ("stores", "require_store", ("kinds", "value")),
    ("stores", "are_among", ("facts", "others")),
    ("questions", "require_question", ("kinds", "value")),
    ("questions", "variables_of", ("part",)),
    ("questions", "known_things", ("question",)),
    ("questions", "known_by", ("questions",)),
    ("questions", "question_of", ("kinds", "kind")),
    ("questions", "no_ban", ()),
    ("answers", "body_with", ("part", "values")),
    ("answers", "head_with", ("part", "values")),
    ("answers", "holds", ("part", "values", "store")),
    ("answers", "values_for", ("part", "store")),
    ("answers", "answers", ("question", "store")),
    ("answers", "keeps", ("ban", "store")),
    ("programs", "require_program", ("kinds", "value")),
    ("programs", "is_met", ("deed", "fact")),
    ("programs", "done", ("deed", "store")),
    ("programs", "run", ("program", "store")),
    ("leading", "cases", ("deed", "atom")),
    ("leading", "normal", ("part",)),
    ("leading", "led_back", ("program", "question", "*", "tries")),
    ("leading", "choices_at", ("deed", "question")),
    ("ways", "ways_of", ("part", "known")),
    ("ways", "way_like", ("part", "values", "known")),
    ("ways", "facts_of", ("part", "values")),
    ("comparing", "is_within", ("first", "second", "ban", "*", "tries")),
    ("comparing", "parting", ("first", "second", "ban", "*", "tries")),
    ("comparing", "are_alike", ("one", "other", "ban", "*", "tries")),
    ("trimming", "is_needless", ("question", "index", "place", "ban", "*", "tries")),
    ("trimming", "trimmed", ("question", "ban", "*", "tries")),
    ("trimming", "guard", ("program", "other", "ban", "*", "tries")),
    ("judging", "is_kept", ("program", "other", "ban", "*", "tries")),
    ("judging", "are_same", ("kinds", "one", "other", "ban", "*", "tries")),
    ("judging", "is_untouched", ("program", "question", "ban", "*", "tries")),
    ("judging", "is_idle", ("kinds", "program", "index", "ban", "*", "tries")),
    ("judging", "can_exchange", ("kinds", "program", "index", "ban", "*", "tries")),
    ("judging", "is_settled", ("kinds", "program", "ban", "*", "tries")),
    ("mends", "require_wishes", ("kinds", "value")),
    ("mends", "require_options", ("kinds", "program", "value")),
    ("mends", "choices", ("program", "options")),
    ("mends", "with_choice", ("program", "options", "choice")),
    ("mends", "keeps_wish", ("kinds", "program", "wish", "ban", "*", "tries")),
    ("mends", "cheapest_mend", ("kinds", "program", "wishes", "options", "ban", "*", "tries")),
    ("claims", "require_claim", ("claim",)),
    ("claims", "decide", ("claim", "*", "tries")),
    ("checker", "first_fault", ("certificate",)),
    ("desks", "Desk", ("kinds", "ban", "*", "first", "tries")),
    ("texts", "format_question", ("question",)),
    ("texts", "format_program", ("program",)),
    ("texts", "parse_question", ("kinds", "text")),
    ("texts", "parse_program", ("kinds", "text")),
)
# The methods that the interface lists for the class Desk, with their arguments; for signs the names are free.
METHODS_OF_DESK = {
    "do": ("program",), "would": ("program",), "ask": ("question",), "ask_after": ("program", "question"),
    "is_safe": ("program",), "adopt": ("certificate",), "adopted": (), "store": (), "ban": (), "kinds": (), "turns": (),
    "undo": (), "back_to": ("count",), "twin": (), "__contains__": None, "__eq__": None, "__len__": (), "__iadd__": None,
}
# The values of arguments that are not given.
DEFAULTS = {"tries": 300, "first": ()}
# LANGUAGE.md, L8: the builtins that may be used, as far as the package does; L25: the methods of builtin values.
BUILTINS = ("len", "range", "enumerate", "zip", "min", "max", "sum", "abs", "sorted", "reversed", "int", "str", "bool",
            "list", "tuple", "dict", "set", "isinstance", "any", "all", "type", "ValueError", "RuntimeError",
            "OverflowError")
METHODS = {"add", "append", "clear", "copy", "count", "endswith", "extend", "get", "index", "insert", "items", "join", "keys",
           "partition", "pop", "setdefault", "split", "startswith", "update", "values"}
# LANGUAGE.md, L2 The library: nothing else from outside may be imported.
OUTSIDE = ("__future__", "heapq", "math", "itertools", "collections")


def package_files():
    """The names of the files of the package, without what Python itself keeps beside them."""
    return sorted(name for name in os.listdir(PACKAGE) if name != "__pycache__")


def source(name):
    with open(os.path.join(PACKAGE, name), encoding="utf-8", newline="") as file:
        return file.read()


class InterfaceTest(unittest.TestCase):
    def test_each_name_is_defined_in_its_file(self):
        for file, name, _ in LISTED:
            with self.subTest(name=name):
                tree = ast.parse(source(file + ".py"))
                defined = [node.name for node in tree.body if isinstance(node, (ast.FunctionDef, ast.ClassDef))]
                self.assertEqual(defined.count(name), 1)

    def test_arguments(self):
        for file, name, arguments in LISTED:
            with self.subTest(name=name):
                found = getattr(importlib.import_module("backasked." + file), name)
                parameters = list(inspect.signature(found).parameters.values())
                self.assertEqual([each.name for each in parameters], [word for word in arguments if word != "*"])
                free = arguments.index("*") if "*" in arguments else len(arguments)
                for place, each in enumerate(parameters):
                    by_place = inspect.Parameter.POSITIONAL_OR_KEYWORD
                    self.assertEqual(each.kind, by_place if place < free else inspect.Parameter.KEYWORD_ONLY)
                    default = DEFAULTS.get(each.name, inspect.Parameter.empty) if place >= free else each.empty
                    self.assertEqual(each.default, default)

    def test_methods(self):
        tree = ast.parse(source("desks.py"))
        (desk,) = [node for node in tree.body if isinstance(node, ast.ClassDef)]
        defined = {node.name: node for node in desk.body if isinstance(node, ast.FunctionDef)}
        for name, arguments in METHODS_OF_DESK.items():
            self.assertIn(name, defined)
            names = tuple(each.arg for each in defined[name].args.args)
            self.assertEqual(names[0], "self")
            self.assertEqual(len(names) - 1 if arguments is None else names[1:], 1 if arguments is None else arguments)


class FilesTest(unittest.TestCase):
    def test_only_python_files(self):
        for name in package_files():
            self.assertRegex(name, r"\A[a-z_]+\.py\Z")
        self.assertIn("__init__.py", package_files())

    def test_imports(self):
        for name in package_files():
            for node in ast.walk(ast.parse(source(name))):
                self.assertNotIsInstance(node, ast.Import)
                if isinstance(node, ast.ImportFrom):
                    self.assertEqual(node.level, 0)
                    self.assertIn(node.module.split(".")[0], ("backasked", *OUTSIDE))

    def test_sizes_and_characters(self):
        for name in package_files():
            text = source(name)
            lines = text.split("\n")
            self.assertLessEqual(len(lines) - 1, 399, name)
            self.assertLessEqual(max(len(line) for line in lines), 120, name)
            self.assertEqual([sign for sign in text if sign != "\n" and not " " <= sign <= "~"], [], name)
            for node in ast.walk(ast.parse(text)):
                if isinstance(node, ast.FunctionDef):
                    self.assertLessEqual(node.end_lineno - node.lineno + 1, 40, (name, node.name))

    def test_builtins_and_methods(self):
        trees = {name: ast.parse(source(name)) for name in package_files()}
        own = {node.name for tree in trees.values() for node in ast.walk(tree) if isinstance(node, ast.FunctionDef)}
        for name, tree in trees.items():
            for node in ast.walk(tree):
                if isinstance(node, ast.Name) and hasattr(builtins, node.id):
                    self.assertIn(node.id, BUILTINS, name)
                    self.assertIsInstance(node.ctx, ast.Load, name)
                if isinstance(node, ast.arg):
                    self.assertFalse(hasattr(builtins, node.arg), (name, node.arg))
                if isinstance(node, ast.Call) and isinstance(node.func, ast.Attribute):
                    self.assertIn(node.func.attr, own | METHODS | {"__init__"}, name)

    def test_names_inside_functions(self):
        # LANGUAGE.md, L15: none is that of a class or an import of its file; L12: _ is never read.
        for name in package_files():
            tree = ast.parse(source(name))
            taken = {node.name for node in tree.body if isinstance(node, ast.ClassDef)}
            taken |= {each.name for node in tree.body if isinstance(node, ast.ImportFrom) for each in node.names}
            for node in ast.walk(tree):
                if isinstance(node, ast.arg):
                    self.assertNotIn(node.arg, taken, name)
                if isinstance(node, ast.Name):
                    self.assertFalse(isinstance(node.ctx, ast.Store) and node.id in taken, (name, node.id))
                    self.assertFalse(isinstance(node.ctx, ast.Load) and node.id == "_", name)

    def test_sets_are_sorted_or_asked(self):
        # LANGUAGE.md, L24: the order of a set's members is nowhere to be seen.
        for name in package_files():
            tree = ast.parse(source(name))
            sorted_ones = [node.args[0] for node in ast.walk(tree) if isinstance(node, ast.Call)
                           and isinstance(node.func, ast.Name) and node.func.id in ("sorted", "len")]
            kept = [node.value for node in ast.walk(tree) if isinstance(node, ast.Assign)]
            for node in ast.walk(tree):
                made = isinstance(node, ast.Call) and isinstance(node.func, ast.Name) and node.func.id == "set"
                if made or isinstance(node, (ast.Set, ast.SetComp)):
                    self.assertTrue(any(node is each for each in sorted_ones + kept), (name, node.lineno))


class ReadmeTest(unittest.TestCase):
    def test_examples(self):
        told = doctest.testfile(os.path.join(ROOT, "README.md"), module_relative=False)
        self.assertGreater(told.attempted, 5)
        self.assertEqual(told.failed, 0)


if __name__ == "__main__":
    unittest.main()
