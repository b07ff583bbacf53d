"""That the package keeps to the plain rules of its language, and to its interface."""

import ast
import builtins
import os
import unittest
import warnings

import lazywebs
from walks import kept_rows

FOLDER = os.path.dirname(os.path.abspath(lazywebs.__file__))
LIBRARY = {"heapq", "math", "itertools", "collections"}

# By its file each class, or each function with its arguments, or each class
# with its methods and their arguments.
INTERFACE = {
    "errors.py": {"LazyError", "NoProgram", "Twice", "Hidden", "Stranger", "More", "NoRows", "NoText", "NoRow"},
    "parts.py": {"within": ["part"], "many_in": ["part"], "deep_in": ["part"]},
    "looks.py": {"looked": ["thing"]},
    "programs.py": {"places": ["program"], "body_place": ["program", "f"], "wants": ["program", "f"]},
    "putting.py": {"put_in": ["part", "things"], "is_worth": ["program", "part"], "step": ["program", "part"]},
    "plain.py": {"led": ["program", "part", "most"], "plain_told": ["program", "deep", "most"]},
    "nodes.py": {"Nodes": {
        "__init__": ["self", "program"], "node": ["self", "place", "things"], "seen": ["self", "place", "things"],
        "told": ["self", "number"], "many": ["self"],
    }},
    "rules.py": {"behind": ["nodes", "number", "worths"]},
    "doing.py": {"Doer": {
        "__init__": ["self", "program"], "asked": ["self"], "nodes": ["self"], "do": ["self", "number", "most"],
        "told": ["self", "deep", "most"], "calls": ["self"],
    }},
    "papers.py": {"paper_of": ["program", "most"]},
    "judge.py": {"shows": ["program", "thing"]},
    "rows.py": {"built_rows": ["program", "f"], "lean_rows": ["program", "f"], "all_rows": ["program", "lean"]},
    "rowjudge.py": {"lets_by": ["program", "f", "thing"]},
    "cells.py": {"named_by": ["cell"]},
    "machine.py": {"Machine": {
        "__init__": ["self", "program", "rows", "room", "moments"], "do": ["self", "most"], "told": ["self", "deep", "most"],
        "calls": ["self"], "made": ["self"], "record": ["self"], "cells": ["self"], "roots": ["self"], "sweep": ["self"],
        "asked": ["self"],
    }},
    "sweeps.py": {"sweep_paper": ["cells", "roots"], "lets_sweep": ["cells", "roots", "thing"]},
    "room.py": {"least_room": ["program", "rows", "deep", "most"]},
    "writing.py": {"part_text": ["part"], "written": ["program"]},
    "reading.py": {"read": ["text"]},
    "desk.py": {"Desk": {"__init__": ["self"], "say": ["self", "row"]}},
}

BUILTINS = {
    "len", "range", "enumerate", "zip", "min", "max", "sum", "abs", "sorted", "reversed", "int", "str", "bool", "list",
    "tuple", "dict", "set", "isinstance", "ord", "repr", "any", "all", "divmod", "ValueError", "KeyError", "Exception", "super",
}
METHODS = {
    "append", "clear", "copy", "count", "endswith", "extend", "find", "get", "index", "insert", "isdigit", "items",
    "join", "keys", "pop", "remove", "replace", "reverse", "setdefault", "split", "startswith", "strip", "update",
    "values", "__init__",
}
KEPT = (
    "range(k)", "zip(xs, ys)", "enumerate(xs)", "reversed(xs)", "d.items()", "d.keys()", "self.d.values()",
    "map(str, xs)", "product(xs, ys)", "chain.from_iterable(xs)", "(x for x in xs)",
)
# Rows that do not walk what stands for HERE on the spot, and rows that do.
KEEPING = (
    "xs.extend(HERE)", "xs[k].extend(HERE)", "xs.extend(ys if k else HERE)", "xs.extend((HERE))", "d.update(HERE)",
    "xs += HERE", "xs = HERE", "xs[1:2] = HERE", "xs.append(HERE)", "return HERE", "f(HERE)", "f(*HERE)", "set(HERE)",
    "xs = [*HERE]", "xs = [HERE]", "xs == HERE", "HERE == xs", "HERE in xs", "list(zip(xs, HERE))", "min(k, HERE)",
    "min(HERE, key=len)", "glue.join(HERE)", "sorted(xs, key=HERE)", "for x in xs or HERE:\n    pass",
    "for x in ys.extend(HERE):\n    pass",
)
WALKING = (
    "for x in HERE:\n    pass", "xs = [x for x in HERE]", "xs = [x for y in ys for x in HERE]",
    "d = {x: 1 for x in HERE}", "xs.extend(list(HERE))", "xs.extend([x for x in HERE])", "xs = tuple(HERE)",
    "d = dict(HERE)", "sorted(HERE, reverse=True)", "sum(HERE, start=1)", "any(HERE)", "all(HERE)",
    "for x in enumerate(HERE):\n    pass", "for x in zip(HERE, xs):\n    pass", "min(HERE)", "max(HERE, default=0)",
    "' '.join(HERE)",
)
BARRED = {"_record", "_written_out", "_cold", "_outside", "register", "mro", "elements", "open", "input", "law", "version_info", "type", "id", "vars", "dir", "exec", "eval"}


def names_bound(tree):
    """The names of all functions, classes, parameters and variables of a file."""
    for node in ast.walk(tree):
        if isinstance(node, (ast.FunctionDef, ast.ClassDef)):
            yield node.name
        elif isinstance(node, ast.arg):
            yield node.arg
        elif isinstance(node, ast.Name) and isinstance(node.ctx, ast.Store):
            yield node.id


def imports_of(tree):
    """By its name each thing that the file imports from the package, with its file."""
    return {alias.name: node.module.split(".")[1] + ".py" for node in ast.walk(tree)
            if isinstance(node, ast.ImportFrom) and node.module.startswith("lazywebs.") for alias in node.names}


def arguments_of(function):
    return [argument.arg for argument in function.args.args]


def sources():
    found = {}
    for file in sorted(os.listdir(FOLDER)):
        if file.endswith(".py"):
            with open(os.path.join(FOLDER, file), encoding="utf-8") as opened:
                found[file] = opened.read()
    return found


class Language(unittest.TestCase):
    def setUp(self):
        self.sources = sources()
        self.trees = {file: ast.parse(text) for file, text in self.sources.items()}

    def test_the_folder_has_python_files_alone(self):
        others = [file for file in os.listdir(FOLDER) if not file.endswith(".py") and file != "__pycache__"]
        self.assertEqual(others, [])
        self.assertIn("__init__.py", self.sources)

    def test_signs_and_sizes(self):
        for file, text in self.sources.items():
            self.assertTrue(all(sign == "\n" or " " <= sign <= "~" for sign in text), file)
            self.assertLess(text.count("\n"), 400, file)
            self.assertLessEqual(max(map(len, text.split("\n"))), 120, file)

    def test_functions_are_small(self):
        for file, tree in self.trees.items():
            for node in ast.walk(tree):
                if isinstance(node, ast.FunctionDef):
                    self.assertLessEqual(node.end_lineno - node.lineno, 39, (file, node.name))

    def test_imports_are_from_the_package_by_full_names(self):
        for file, tree in self.trees.items():
            for node in ast.walk(tree):
                self.assertNotIsInstance(node, ast.Import, file)
                if isinstance(node, ast.ImportFrom):
                    self.assertEqual(node.level, 0, file)
                    self.assertIn(node.module.split(".")[0], LIBRARY | {"lazywebs"}, file)

    def test_no_percent_sign_in_strings_and_no_floats(self):
        for file, tree in self.trees.items():
            for node in ast.walk(tree):
                if isinstance(node, ast.Constant):
                    self.assertNotIsInstance(node.value, (float, complex), file)
                    self.assertNotIn("%", str(node.value), file)

    def test_python_warns_of_nothing(self):
        with warnings.catch_warnings():
            warnings.simplefilter("error")
            for file, text in self.sources.items():
                compile(text, file, "exec")

    def test_the_interface_is_defined_in_its_files(self):
        for file, names in INTERFACE.items():
            defined = {node.name: node for node in self.trees[file].body
                       if isinstance(node, (ast.FunctionDef, ast.ClassDef))}
            for name in names:
                self.assertIn(name, defined, file)
                if isinstance(names, set):
                    continue
                if isinstance(names[name], list):
                    self.assertEqual(arguments_of(defined[name]), names[name], (file, name))
                else:
                    methods = {node.name: arguments_of(node) for node in defined[name].body
                               if isinstance(node, ast.FunctionDef)}
                    self.assertEqual({method: methods.get(method) for method in names[name]}, names[name], (file, name))

    def test_builtins_that_are_called_are_those_of_the_language(self):
        for file, tree in self.trees.items():
            own = set(names_bound(tree)) | set(imports_of(tree))
            for node in ast.walk(tree):
                if isinstance(node, ast.Name) and isinstance(node.ctx, ast.Load) and hasattr(builtins, node.id):
                    self.assertIn(node.id, BUILTINS, file)
                    self.assertNotIn(node.id, own, file)

    def test_no_name_is_a_builtins_or_is_barred(self):
        for file, tree in self.trees.items():
            for name in set(names_bound(tree)) - {"__init__"}:
                self.assertFalse(hasattr(builtins, name), (file, name))
                self.assertNotIn(name, BARRED, file)

    def test_methods_that_are_called_are_own_or_those_of_the_language(self):
        own = {node.name for tree in self.trees.values() for node in ast.walk(tree) if isinstance(node, ast.FunctionDef)}
        for file, tree in self.trees.items():
            for node in ast.walk(tree):
                if isinstance(node, ast.Call) and isinstance(node.func, ast.Attribute):
                    self.assertIn(node.func.attr, own | METHODS, file)

    def test_no_variable_has_the_name_of_an_import_or_a_class_of_its_file(self):
        for file, tree in self.trees.items():
            classes = {node.name for node in tree.body if isinstance(node, ast.ClassDef)}
            taken = set(imports_of(tree)) | classes
            top = {id(node) for node in tree.body}
            for node in ast.walk(tree):
                if isinstance(node, ast.arg):
                    self.assertNotIn(node.arg, taken, file)
                elif isinstance(node, ast.Name) and isinstance(node.ctx, ast.Store):
                    self.assertNotIn(node.id, taken, file)
                elif isinstance(node, ast.FunctionDef) and id(node) in top:
                    self.assertNotIn(node.name, taken, file)

    def test_no_parameter_or_variable_hides_a_function_of_its_file(self):
        for file, tree in self.trees.items():
            functions = {node.name for node in tree.body if isinstance(node, ast.FunctionDef)}
            for node in ast.walk(tree):
                if isinstance(node, ast.arg):
                    self.assertNotIn(node.arg, functions, file)
                elif isinstance(node, ast.Name) and isinstance(node.ctx, ast.Store):
                    self.assertNotIn(node.id, functions, file)

    def test_each_import_names_the_file_that_defines_it_and_is_used(self):
        for file, tree in self.trees.items():
            used = {node.id for node in ast.walk(tree) if isinstance(node, ast.Name)}
            for name, of in imports_of(tree).items():
                defined = [node.name for node in self.trees[of].body if isinstance(node, (ast.FunctionDef, ast.ClassDef))]
                defined += [target.id for node in self.trees[of].body if isinstance(node, ast.Assign) for target in node.targets]
                self.assertIn(name, defined, (file, of))
                self.assertIn(name, used, file)

    def test_no_two_files_import_from_each_other(self):
        imported = {file: set(imports_of(tree).values()) for file, tree in self.trees.items()}
        left = dict(imported)
        while left:
            ready = [file for file, others in left.items() if not others & set(left)]
            self.assertNotEqual(ready, [], left)
            for file in ready:
                del left[file]

    def test_ranges_zips_views_and_their_like_are_walked_on_the_spot(self):
        for file, tree in self.trees.items():
            self.assertEqual(kept_rows(tree), [], file)

    def test_is_stands_beside_none_true_and_false_alone(self):
        for file, tree in self.trees.items():
            for node in ast.walk(tree):
                if isinstance(node, ast.Compare) and any(isinstance(op, (ast.Is, ast.IsNot)) for op in node.ops):
                    self.assertIsInstance(node.comparators[0], ast.Constant, file)

    def test_no_method_is_an_attribute_of_its_class_and_none_is_both_anywhere(self):
        methods, attributes = set(), set()
        for tree in self.trees.values():
            for node in ast.walk(tree):
                if isinstance(node, ast.ClassDef):
                    methods |= {inner.name for inner in node.body if isinstance(inner, ast.FunctionDef)}
                if isinstance(node, ast.Attribute) and isinstance(node.ctx, ast.Store):
                    attributes.add(node.attr)
        self.assertEqual(methods & attributes, set())

    def test_no_statement_beyond_those_of_the_language(self):
        barred = (ast.Global, ast.AsyncFunctionDef, ast.Await, ast.AsyncFor, ast.AsyncWith, ast.Div, ast.Yield, ast.YieldFrom)
        for file, tree in self.trees.items():
            for node in ast.walk(tree):
                self.assertNotIsInstance(node, barred, file)


class Walks(unittest.TestCase):
    """That a range, zip, view or the like is found where it is not walked on the spot, and there alone."""

    def test_what_is_kept_is_found(self):
        for row in KEEPING:
            for kept in KEPT:
                self.assertEqual(kept_rows(ast.parse(row.replace("HERE", kept))), [1], (row, kept))

    def test_what_is_walked_on_the_spot_is_not_found(self):
        for row in WALKING:
            for walked in KEPT:
                self.assertEqual(kept_rows(ast.parse(row.replace("HERE", walked))), [], (row, walked))

    def test_only_ranges_and_views_are_measured_and_looked_into_as_they_stand(self):
        for row in ("len(HERE)", "k in HERE", "k not in HERE"):
            for walked in ("range(k)", "d.items()", "d.keys()", "d.values()"):
                self.assertEqual(kept_rows(ast.parse(row.replace("HERE", walked))), [], (row, walked))
            for kept in ("zip(xs, ys)", "enumerate(xs)", "reversed(xs)"):
                self.assertEqual(kept_rows(ast.parse(row.replace("HERE", kept))), [1], (row, kept))

    def test_only_ranges_are_reversed_as_they_stand(self):
        self.assertEqual(kept_rows(ast.parse("list(reversed(range(k)))")), [])
        for kept in ("zip(xs, ys)", "enumerate(xs)", "reversed(xs)", "d.items()", "d.keys()", "d.values()"):
            self.assertEqual(kept_rows(ast.parse(f"list(reversed({kept}))")), [1], kept)

    def test_what_goes_over_lists_is_not_found(self):
        for row in ("xs.extend(ys)", "xs.extend([1, 2])", "xs.extend(ys[::-1])", "xs.extend(f(ys))", "xs += [1]"):
            self.assertEqual(kept_rows(ast.parse(row)), [], row)

    def test_each_row_is_found_by_its_number(self):
        text = "xs = []\nxs.extend(range(3))\nfor x in range(3):\n    ys = zip(xs, xs)"
        self.assertEqual(kept_rows(ast.parse(text)), [2, 4])
