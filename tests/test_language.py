"""That the package keeps to the plain rules of its language, and to its interface."""

import ast
import os
import unittest
import warnings

import lazywebs

FOLDER = os.path.dirname(os.path.abspath(lazywebs.__file__))
LIBRARY = {"heapq", "math", "itertools", "collections"}

# By its file each class, or each function with its arguments.
INTERFACE = {
    "errors.py": {"LazyError", "NoProgram", "Twice", "Hidden", "Stranger", "More", "NoRows", "NoText", "NoRow"},
    "parts.py": {"within": ["part"], "many_in": ["part"], "deep_in": ["part"]},
    "looks.py": {"looked": ["thing"]},
    "programs.py": {"places": ["program"], "body_place": ["program", "f"], "wants": ["program", "f"]},
}


def sources():
    found = {}
    for file in sorted(os.listdir(FOLDER)):
        if file.endswith(".py"):
            with open(os.path.join(FOLDER, file), encoding="utf-8") as opened:
                found[file] = opened.read()
    return found


class Language(unittest.TestCase):
    def setUp(self):
        self.sources = sources()
        self.trees = {file: ast.parse(text) for file, text in self.sources.items()}

    def test_the_folder_has_python_files_alone(self):
        others = [file for file in os.listdir(FOLDER) if not file.endswith(".py") and file != "__pycache__"]
        self.assertEqual(others, [])
        self.assertIn("__init__.py", self.sources)

    def test_signs_and_sizes(self):
        for file, text in self.sources.items():
            self.assertTrue(all(sign == "\n" or " " <= sign <= "~" for sign in text), file)
            self.assertLess(text.count("\n"), 400, file)
            self.assertLessEqual(max(map(len, text.split("\n"))), 120, file)

    def test_functions_are_small(self):
        for file, tree in self.trees.items():
            for node in ast.walk(tree):
                if isinstance(node, ast.FunctionDef):
                    self.assertLessEqual(node.end_lineno - node.lineno, 39, (file, node.name))

    def test_imports_are_from_the_package_by_full_names(self):
        for file, tree in self.trees.items():
            for node in ast.walk(tree):
                self.assertNotIsInstance(node, ast.Import, file)
                if isinstance(node, ast.ImportFrom):
                    self.assertEqual(node.level, 0, file)
                    self.assertIn(node.module.split(".")[0], LIBRARY | {"lazywebs"}, file)

    def test_no_percent_sign_in_strings_and_no_floats(self):
        for file, tree in self.trees.items():
            for node in ast.walk(tree):
                if isinstance(node, ast.Constant):
                    self.assertNotIsInstance(node.value, (float, complex), file)
                    self.assertNotIn("%", str(node.value), file)

    def test_python_warns_of_nothing(self):
        with warnings.catch_warnings():
            warnings.simplefilter("error")
            for file, text in self.sources.items():
                compile(text, file, "exec")

    def test_the_interface_is_defined_in_its_files(self):
        for file, names in INTERFACE.items():
            defined = {node.name: node for node in self.trees[file].body
                       if isinstance(node, (ast.FunctionDef, ast.ClassDef))}
            for name in names:
                self.assertIn(name, defined, file)
                if isinstance(names, dict):
                    arguments = [argument.arg for argument in defined[name].args.args]
                    self.assertEqual(arguments, names[name], (file, name))
