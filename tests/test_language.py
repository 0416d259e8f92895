"""Some rules of the language that every file of the package keeps and that are easily broken."""

import ast
import os
import unittest

import planetlocks

FOLDER = os.path.dirname(planetlocks.__file__)
LIBRARY = {"heapq", "math", "collections", "__future__"}
INTERFACE = {
    "errors.py": "BoxError InvalidShafts Contradiction Refused InvalidWords",
    "webs.py": "is_tree tree_sign holding_order judge_order ring_of judge_ring apart tree_count tree_sets",
    "boxes.py": "Box is_fraction is_work is_locks is_ratios first_difference second_difference sense_at with_work "
                "without_work turned renamed renamed_locks",
    "motions.py": "holds freedom motions speeds_of still alike",
    "forms.py": "Form sense_of unknowns_of above below at_zero with_told never_below",
    "trees.py": "tree_form choices_of driven undriven tied untied",
    "ranges.py": "speed_range slip_range compared ratios_for sure_order same_speeds",
    "parts.py": "parts product product_sense",
}

METHODS = {
    "Box": "__init__ shafts works __len__ __add__ __eq__",
    "Form": "__init__ terms __len__ __iter__ __add__ __sub__ __neg__ __mul__ __call__ __eq__",
}


def files():
    for name in sorted(os.listdir(FOLDER)):
        if name != "__pycache__":
            with open(os.path.join(FOLDER, name), encoding="utf-8") as file:
                yield name, file.read()


class LanguageTest(unittest.TestCase):
    def test_sizes_and_signs(self):
        for name, text in files():
            with self.subTest(name=name):
                self.assertRegex(name, r"^[a-z_]+\.py$")
                self.assertTrue(all(" " <= sign <= "~" or sign == "\n" for sign in text))
                self.assertLess(len(text.splitlines()), 400)
                self.assertLessEqual(max(len(line) for line in text.splitlines()), 120)
                for node in ast.walk(ast.parse(text)):
                    if isinstance(node, ast.FunctionDef):
                        self.assertLessEqual(node.end_lineno - node.lineno + 1, 40)

    def test_imports(self):
        for name, text in files():
            for node in ast.walk(ast.parse(text)):
                with self.subTest(name=name):
                    self.assertNotIsInstance(node, ast.Import)
                    if isinstance(node, ast.ImportFrom):
                        self.assertEqual(node.level, 0)
                        self.assertTrue(node.module in LIBRARY or node.module.startswith("planetlocks."))

    def test_signs_and_statements(self):
        barred = (ast.Div, ast.Global, ast.AsyncFunctionDef, ast.GeneratorExp, ast.Starred)
        for name, text in files():
            for node in ast.walk(ast.parse(text)):
                with self.subTest(name=name):
                    self.assertNotIsInstance(node, barred)
                    if isinstance(node, ast.Constant):
                        self.assertNotIsInstance(node.value, float)

    def test_interface_is_defined_in_its_files(self):
        texts = dict(files())
        for name, words in INTERFACE.items():
            body = ast.parse(texts[name]).body
            defined = [node.name for node in body if isinstance(node, (ast.FunctionDef, ast.ClassDef))]
            self.assertLessEqual(set(words.split()), set(defined))

    def test_methods_are_defined_in_their_classes(self):
        found = {}
        for _, text in files():
            for node in ast.parse(text).body:
                if isinstance(node, ast.ClassDef):
                    found[node.name] = {part.name for part in node.body if isinstance(part, ast.FunctionDef)}
        for name, words in METHODS.items():
            self.assertLessEqual(set(words.split()), found[name])
