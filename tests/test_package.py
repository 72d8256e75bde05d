"""The form of the package: its interface, and what can be checked at once of the rules it is written by."""

import ast
import importlib
import inspect
import os
import unittest

FOLDER = os.path.join(os.path.dirname(os.path.dirname(os.path.abspath(__file__))), "keptanyhow")

# The functions of each file that has landed, with their parameters.
INTERFACE = {
    "ways": {
        "names_in": ["way"],
        "way_of": ["names"],
        "above": ["way"],
        "last_name": ["way"],
        "lies_below": ["one", "other"],
    },
    "trees": {
        "is_tree": ["value"],
        "stands": ["tree", "way"],
        "reads": ["tree", "way"],
        "inside": ["tree", "way"],
        "ways_of_file": ["tree", "way"],
        "size_of_tree": ["tree"],
    },
    "deeds": {
        "is_deed": ["value"],
        "let_by": ["tree", "deed"],
        "done": ["tree", "deed"],
        "done_all": ["tree", "deeds"],
        "changes": ["tree", "deed"],
    },
    "octets": {
        "number_bytes": ["number", "count"],
        "text_bytes": ["contents"],
        "with_check": ["some"],
        "bytes_number": ["some"],
        "bytes_text": ["some"],
        "check": ["some"],
        "without_check": ["some"],
    },
    "pages": {
        "written_page": ["told"],
        "told_page": ["page"],
    },
    "cards": {
        "is_card": ["value"],
        "card_bytes": ["card"],
        "bytes_card": ["stamp", "period", "some"],
        "tails_needed": ["card"],
        "card_pages": ["thing", "card", "tails"],
    },
    "images": {
        "new_image": ["size"],
        "put_all": ["image", "writes"],
        "kept": ["image", "writes", "keeping"],
        "written_numbers": ["writes"],
        "times_written": ["writes"],
        "keeping_by": ["writes", "numbers"],
        "count_keepings": ["writes"],
    },
    "scans": {
        "head_of": ["image"],
        "size_of": ["image"],
        "safe_sides": ["image"],
        "open_sides": ["image"],
        "counting": ["image"],
        "cards_up": ["image"],
        "faults": ["image"],
        "card_on": ["image", "thing", "side"],
        "contents_on": ["image", "thing", "card"],
        "tree_up": ["image"],
        "greatest_stamp": ["image"],
        "settling": ["image"],
        "settled": ["image"],
    },
    "needs": {
        "end": ["tree", "deeds"],
        "tree_of": ["tree", "deeds", "past"],
        "leans": ["tree", "deeds"],
        "needs": ["tree", "deeds"],
        "lost_with": ["tree", "deeds", "place"],
        "least_with": ["tree", "deeds", "places"],
        "greatest_without": ["tree", "deeds", "places"],
        "is_past": ["tree", "deeds", "value"],
        "pasts": ["tree", "deeds"],
        "trees": ["tree", "deeds"],
        "count_pasts": ["tree", "deeds"],
        "past_for": ["tree", "deeds", "other"],
    },
    "cuts": {
        "image_of": ["size", "tree"],
        "copied_to": ["image", "size"],
        "joined": ["one", "other"],
        "drive_of": ["size", "tree", "deeds"],
        "keeping_for": ["size", "tree", "deeds", "past"],
        "past_by": ["size", "tree", "deeds", "keeping"],
    },
    "promises": {
        "holds": ["tree", "wish"],
        "surely": ["tree", "deeds", "wish"],
        "first_break": ["tree", "deeds", "wish"],
        "kept_promises": ["tree", "deeds", "promises"],
        "fewest_syncs": ["tree", "deeds", "promises"],
        "apart_promises": ["tree", "deeds", "promises"],
        "parted_by": ["deeds", "gaps"],
    },
    "tables": {
        "asked_ways": ["tree", "deeds"],
        "settled_ways": ["tree", "deeds", "past"],
        "table": ["tree", "deeds"],
        "marks": ["tree", "ways"],
        "exchanged": ["tree", "deeds", "place"],
        "plain_row": ["tree", "deeds"],
        "alike": ["one_tree", "one_deeds", "tree", "deeds"],
        "parting": ["one_tree", "one_deeds", "tree", "deeds"],
    },
    "lives": {
        "live": ["size", "events"],
        "counted": ["size", "events"],
        "deeds_between": ["one", "other"],
        "story": ["size", "events"],
    },
    "texts": {
        "write_tree": ["tree"],
        "write_deed": ["deed"],
        "write_image": ["image"],
        "read_tree": ["text"],
        "read_deed": ["text"],
        "read_image": ["text"],
    },
}

# The classes, with the parameters of each method, and their properties.
CLASSES = {
    ("drives", "Drive"): (
        {"__init__": ["self", "image"], "do": ["self", "deed"], "sync": ["self"], "cut": ["self", "keeping"],
         "unsynced": ["self", "way"]},
        ["image", "tree", "deeds", "writes", "period", "stamp", "cards", "room"],
    ),
    ("desks", "Desk"): (
        {"__init__": ["self", "size"], "run": ["self", "line"], "undo": ["self"], "redo": ["self"]},
        ["tree", "image", "lines"],
    ),
}

STATEMENTS = (
    ast.Assign, ast.AugAssign, ast.If, ast.While, ast.For, ast.Return, ast.Raise, ast.Delete, ast.Try, ast.Expr, ast.FunctionDef,
    ast.ClassDef, ast.ImportFrom,
)
# Methods of builtin values that are called in the package: all are among those that may be.
METHODS = """append bit_length endswith extend find get index items join partition pop remove rpartition setdefault split
startswith strip values add""".split()
BARRED = """register mro elements open input law version_info with_traceback add_note attrgetter breakpoint builtins compile
copyright credits delattr dir eval exec exit gc getattr globals hasattr help id importlib license locals methodcaller os quit
setattr super type vars sys""".split()

BUILTINS = """len range enumerate zip min max sum abs sorted reversed int str bool list tuple dict set isinstance ord repr
any all divmod ValueError KeyError IndexError property""".split()


def sources():
    """The pairs of the name and the text of each file of the package."""
    found = []
    for name in sorted(os.listdir(FOLDER)):
        if name != "__pycache__":
            with open(os.path.join(FOLDER, name), encoding="utf-8") as file:
                found.append((name, file.read()))
    return found


def functions(tree):
    """All functions and methods of a file."""
    return [node for node in ast.walk(tree) if isinstance(node, (ast.FunctionDef, ast.AsyncFunctionDef, ast.Lambda))]


class Interface(unittest.TestCase):
    def test_functions_stand_in_their_files(self):
        for file, told in INTERFACE.items():
            module = importlib.import_module("keptanyhow." + file)
            for name, parameters in told.items():
                with self.subTest(name=name):
                    function = getattr(module, name)
                    self.assertEqual("keptanyhow." + file, function.__module__)
                    self.assertEqual(parameters, list(inspect.signature(function).parameters))

    def test_methods_stand_in_their_classes(self):
        for (file, name), (methods, properties) in CLASSES.items():
            kind = getattr(importlib.import_module("keptanyhow." + file), name)
            self.assertEqual("keptanyhow." + file, kind.__module__)
            for method, parameters in methods.items():
                self.assertEqual(parameters, list(inspect.signature(vars(kind)[method]).parameters))
            for word in properties:
                self.assertIsInstance(vars(kind)[word], property)


class Rules(unittest.TestCase):
    def test_files_are_plain(self):
        for name, text in sources():
            with self.subTest(name=name):
                self.assertRegex(name, r"\A[a-z_]+\.py\Z")
                self.assertEqual([], [sign for sign in text if sign != "\n" and not " " <= sign <= "~"])
                self.assertLessEqual(len(text.split("\n")), 399)
                self.assertLessEqual(max(map(len, text.split("\n"))), 120)

    def test_functions_are_short(self):
        for name, text in sources():
            for node in functions(ast.parse(text)):
                with self.subTest(name=name, line=node.lineno):
                    self.assertLessEqual(node.end_lineno - node.lineno, 39)

    def test_imports_name_the_file_that_defines(self):
        for name, text in sources():
            tree = ast.parse(text)
            for node in ast.walk(tree):
                self.assertNotIsInstance(node, ast.Import)
                if isinstance(node, ast.ImportFrom):
                    with self.subTest(name=name, line=node.lineno):
                        self.assertIn(node, tree.body)
                        self.assertEqual(0, node.level)
                        self.assertRegex(node.module, r"\Akeptanyhow\.[a-z]+\Z")
                        self.check_defined(node)

    def check_defined(self, node):
        with open(os.path.join(FOLDER, node.module.split(".")[1] + ".py"), encoding="utf-8") as file:
            tree = ast.parse(file.read())
        found = [part.name for part in tree.body if isinstance(part, (ast.FunctionDef, ast.ClassDef))]
        found += [part.targets[0].id for part in tree.body if isinstance(part, ast.Assign)]
        for alias in node.names:
            self.assertIn(alias.name, found)
            self.assertIs(None, alias.asname)

    def test_imports_are_used(self):
        for name, text in sources():
            tree = ast.parse(text)
            used = [node.id for node in ast.walk(tree) if isinstance(node, ast.Name)]
            for node in [node for node in tree.body if isinstance(node, ast.ImportFrom)]:
                self.assertEqual([], [alias.name for alias in node.names if alias.name not in used], name)

    def test_builtins_are_few(self):
        known = dir(importlib.import_module("builtins"))
        for name, text in sources():
            used = [node.id for node in ast.walk(ast.parse(text)) if isinstance(node, ast.Name)]
            self.assertEqual([], [word for word in used if word in known and word not in BUILTINS], name)

    def test_statements_are_plain(self):
        for name, text in sources():
            for node in ast.walk(ast.parse(text)):
                with self.subTest(name=name, line=getattr(node, "lineno", None)):
                    if isinstance(node, ast.stmt):
                        self.assertIsInstance(node, STATEMENTS)
                    self.assertNotIsInstance(node, (ast.Lambda, ast.GeneratorExp, ast.NamedExpr, ast.JoinedStr, ast.Starred))

    def test_module_level_is_plain(self):
        for name, text in sources():
            tree = ast.parse(text)
            bound = []
            for node in tree.body[1:]:
                with self.subTest(name=name, line=node.lineno):
                    self.assertIsInstance(node, (ast.ImportFrom, ast.FunctionDef, ast.ClassDef, ast.Assign))
                    if isinstance(node, ast.ImportFrom):
                        bound += [alias.name for alias in node.names]
                    elif isinstance(node, ast.Assign):
                        bound += [target.id for target in node.targets]
                    else:
                        bound.append(node.name)
            self.assertEqual(len(bound), len(set(bound)), name)
            inner = [node for node in ast.walk(tree) if isinstance(node, (ast.Name, ast.arg))]
            stored = [node.arg if isinstance(node, ast.arg) else node.id for node in inner
                      if isinstance(node, ast.arg) or (isinstance(node.ctx, ast.Store) and node.col_offset > 0)]
            self.assertEqual([], [word for word in stored if word in bound], name)

    def test_names_that_are_not_used(self):
        known = dir(importlib.import_module("builtins"))
        for name, text in sources():
            for node in ast.walk(ast.parse(text)):
                words = [getattr(node, field, None) for field in ("id", "arg", "attr", "name")]
                self.assertEqual([], [word for word in words if word in BARRED], name)
                if isinstance(node, (ast.FunctionDef, ast.arg)):
                    self.assertNotIn(words[3] or words[1], known, name)

    def test_attributes_and_methods(self):
        trees = [ast.parse(text) for _, text in sources()]
        classes = [node for tree in trees for node in tree.body if isinstance(node, ast.ClassDef)]
        methods = [node for node in classes for node in node.body if isinstance(node, ast.FunctionDef)]
        properties = [node.name for node in methods if node.decorator_list]
        called = [node.name for node in methods if not node.decorator_list]
        stored, read, calls = set(), set(), set()
        for node in [node for tree in trees for node in ast.walk(tree)]:
            if isinstance(node, ast.Call) and isinstance(node.func, ast.Attribute):
                calls.add(node.func.attr)
            if isinstance(node, ast.Attribute):
                (stored if isinstance(node.ctx, ast.Store) else read).add(node.attr)
        self.assertEqual([], sorted(stored & set(properties + called)))
        self.assertEqual([], sorted(calls - set(called) - set(METHODS)))
        self.assertEqual([], sorted(read - stored - set(called) - set(properties) - set(METHODS)))
        builtin = [word for kind in (str, int, list, dict, set, tuple, bytes) for word in dir(kind)]
        self.assertEqual([], sorted((stored - {"index"}) & set(builtin)))

    def test_no_file_imports_itself(self):
        imports = {}
        for name, text in sources():
            froms = [node.module for node in ast.walk(ast.parse(text)) if isinstance(node, ast.ImportFrom)]
            imports["keptanyhow." + name[:-3]] = froms
        reached = {name: set(froms) for name, froms in imports.items()}
        for _ in imports:
            reached = {name: known.union(*[imports[other] for other in known]) for name, known in reached.items()}
        self.assertEqual([], [name for name, known in reached.items() if name in known])

    def test_no_floats_and_no_division(self):
        for name, text in sources():
            for node in ast.walk(ast.parse(text)):
                self.assertNotIsInstance(node, ast.Div, name)
                if isinstance(node, ast.Constant):
                    self.assertNotIsInstance(node.value, float, name)


if __name__ == "__main__":
    unittest.main()
