"""The form of the package: its interface, and what can be checked at once of the rules it is written by."""

import ast
import importlib
import inspect
import os
import unittest

FOLDER = os.path.join(os.path.dirname(os.path.dirname(os.path.abspath(__file__))), "keptanyhow")

# The functions of each file that has landed, with their parameters.
INTERFACE = {
    "ways": {
        "names_in": ["way"],
        "way_of": ["names"],
        "above": ["way"],
        "last_name": ["way"],
        "lies_below": ["one", "other"],
    },
    "trees": {
        "is_tree": ["value"],
        "stands": ["tree", "way"],
        "reads": ["tree", "way"],
        "inside": ["tree", "way"],
        "ways_of_file": ["tree", "way"],
        "size_of_tree": ["tree"],
    },
    "deeds": {
        "is_deed": ["value"],
        "let_by": ["tree", "deed"],
        "done": ["tree", "deed"],
        "done_all": ["tree", "deeds"],
        "changes": ["tree", "deed"],
    },
    "octets": {
        "number_bytes": ["number", "count"],
        "text_bytes": ["contents"],
        "with_check": ["some"],
        "bytes_number": ["some"],
        "bytes_text": ["some"],
        "check": ["some"],
        "without_check": ["some"],
    },
    "pages": {
        "written_page": ["told"],
        "told_page": ["page"],
    },
}

BUILTINS = """len range enumerate zip min max sum abs sorted reversed int str bool list tuple dict set isinstance ord repr
any all divmod ValueError KeyError IndexError""".split()


def sources():
    """The pairs of the name and the text of each file of the package."""
    found = []
    for name in sorted(os.listdir(FOLDER)):
        if name != "__pycache__":
            with open(os.path.join(FOLDER, name), encoding="utf-8") as file:
                found.append((name, file.read()))
    return found


def functions(tree):
    """All functions and methods of a file."""
    return [node for node in ast.walk(tree) if isinstance(node, (ast.FunctionDef, ast.AsyncFunctionDef, ast.Lambda))]


class Interface(unittest.TestCase):
    def test_functions_stand_in_their_files(self):
        for file, told in INTERFACE.items():
            module = importlib.import_module("keptanyhow." + file)
            for name, parameters in told.items():
                with self.subTest(name=name):
                    function = getattr(module, name)
                    self.assertEqual("keptanyhow." + file, function.__module__)
                    self.assertEqual(parameters, list(inspect.signature(function).parameters))


class Rules(unittest.TestCase):
    def test_files_are_plain(self):
        for name, text in sources():
            with self.subTest(name=name):
                self.assertRegex(name, r"\A[a-z_]+\.py\Z")
                self.assertEqual([], [sign for sign in text if sign != "\n" and not " " <= sign <= "~"])
                self.assertLessEqual(len(text.split("\n")), 399)
                self.assertLessEqual(max(map(len, text.split("\n"))), 120)

    def test_functions_are_short(self):
        for name, text in sources():
            for node in functions(ast.parse(text)):
                with self.subTest(name=name, line=node.lineno):
                    self.assertLessEqual(node.end_lineno - node.lineno, 39)

    def test_imports_name_the_file_that_defines(self):
        for name, text in sources():
            tree = ast.parse(text)
            for node in ast.walk(tree):
                self.assertNotIsInstance(node, ast.Import)
                if isinstance(node, ast.ImportFrom):
                    with self.subTest(name=name, line=node.lineno):
                        self.assertIn(node, tree.body)
                        self.assertEqual(0, node.level)
                        self.assertRegex(node.module, r"\Akeptanyhow\.[a-z]+\Z")
                        self.check_defined(node)

    def check_defined(self, node):
        with open(os.path.join(FOLDER, node.module.split(".")[1] + ".py"), encoding="utf-8") as file:
            tree = ast.parse(file.read())
        found = [part.name for part in tree.body if isinstance(part, (ast.FunctionDef, ast.ClassDef))]
        found += [part.targets[0].id for part in tree.body if isinstance(part, ast.Assign)]
        for alias in node.names:
            self.assertIn(alias.name, found)
            self.assertIs(None, alias.asname)

    def test_builtins_are_few(self):
        known = dir(importlib.import_module("builtins"))
        for name, text in sources():
            used = [node.id for node in ast.walk(ast.parse(text)) if isinstance(node, ast.Name)]
            self.assertEqual([], [word for word in used if word in known and word not in BUILTINS], name)

    def test_no_floats_and_no_division(self):
        for name, text in sources():
            for node in ast.walk(ast.parse(text)):
                self.assertNotIsInstance(node, ast.Div, name)
                if isinstance(node, ast.Constant):
                    self.assertNotIsInstance(node.value, float, name)


if __name__ == "__main__":
    unittest.main()
