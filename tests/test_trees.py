"""Points 3 and 4: trees, and what stands in them."""

import copy
import unittest

from keptanyhow.errors import BadTree, BadWay, NotFile, NotFolder
from keptanyhow.trees import inside, is_tree, reads, size_of_tree, stands, ways_of_file
from tests.values import ODD, ODD_TUPLES

SIGNS = "abcdefghijklmnopqrstuvwxyzABCDEFGHIJKLMNOPQRSTUVWXYZ0123456789 .,:;=>/-+_()!?"
TREE = (
    ("/a", "folder"),
    ("/a/b", "folder"),
    ("/a/b/f", "file", "deep"),
    ("/a/c", "folder"),
    ("/a/g", "same", "/a/b/f"),
    ("/ab", "file", ""),
    ("/b", "folder"),
    ("/b/a", "file", "x.y"),
    ("/b/h", "same", "/a/b/f"),
    ("/z", "same", "/ab"),
)


def many_ways(many):
    """A file that stands at so many ways of "/"."""
    letters = "abcdefghijkl"
    return (("/a", "file", "hi"),) + tuple([("/" + letter, "same", "/a") for letter in letters[1:many]])


GOOD = [
    (),
    (("/a", "folder"),),
    (("/a", "file", ""),),
    (("/abcdefgh", "file", "hi"),),
    (("/a", "file", "a" * 2000),),
    (("/a", "file", SIGNS),),
    (("/a", "folder"), ("/a/a", "folder"), ("/a/a/a", "folder")),
    (("/a", "folder"), ("/a/b", "file", "x"), ("/aa", "folder")),
    (("/a", "file", "x"), ("/b", "file", "x")),
    (("/a", "file", "x"), ("/b", "same", "/a"), ("/c", "same", "/a")),
    (("/a", "file", "x"), ("/b", "folder"), ("/b/a", "same", "/a")),
    (("/same", "file", "same"), ("/t", "same", "/same")),
    many_ways(8),
    many_ways(8)[:1] + (("/aa", "file", "x"),) + many_ways(8)[1:] + tuple(
        [("/z" + letter, "same", "/aa") for letter in "abcdefg"]),
    TREE,
]

# Each with the index that is told of it.
WRONG = [
    # no such line
    ((("/a",),), 0),
    (((),), 0),
    ((("/a", "folder", ""),), 0),
    ((("/a", "folder", None),), 0),
    ((("/a", "file"),), 0),
    ((("/a", "file", "x", "y"),), 0),
    ((("/a", "same"),), 0),
    ((("/a", "file", "x"), ("/b", "same", "/a", "/a")), 1),
    ((("/a", "file", "x"), ("/b", "same")), 1),
    ((("/a", "Folder"),), 0),
    ((("/a", "folders"),), 0),
    ((("/a", ""),), 0),
    ((("/a", "none"),), 0),
    ((("/a", "other", "x"),), 0),
    ((("/a", "file", "x"), ("/b", "other", "/a")), 1),
    ((("/a", "file", "x"), ("/b", "folder", "/a")), 1),
    ((("/a", "file", "x"), ("/b", "Same", "/a")), 1),
    ((("/a", None),), 0),
    ((("/a", True),), 0),
    ((("/a", ["folder"]),), 0),
    ((("/a", ("folder",)),), 0),
    ((("/a", {}, "x"),), 0),
    ((["/a", "folder"],), 0),
    ((["/a", "file", "x"],), 0),
    ((("/a", "folder"), ["/b", "folder"]), 1),
    ((("/", "folder"),), 0),
    ((("/", "file", ""),), 0),
    ((("a", "folder"),), 0),
    ((("", "folder"),), 0),
    ((("/A", "folder"),), 0),
    ((("/abcdefghi", "folder"),), 0),
    ((("/a/", "folder"),), 0),
    ((("/a", "folder"), ("/a/", "folder")), 1),
    ((("/a", "folder"), ("/a//b", "folder")), 1),
    (((None, "folder"),), 0),
    (((["/a"], "folder"),), 0),
    (((True, "folder"),), 0),
    ((("/a", "file", "a" * 2001),), 0),
    ((("/a", "file", "x"), ("/b", "file", "\n")), 1),
    ((("/a", "file", "a%"),), 0),
    ((("/a", "file", "\u00e9"),), 0),
    ((("/a", "file", "a\tb"),), 0),
    ((("/a", "file", None),), 0),
    ((("/a", "file", 0),), 0),
    ((("/a", "file", True),), 0),
    ((("/a", "file", ("x",)),), 0),
    ((("/a", "file", ["x"]),), 0),
    ((("/a", "file", "x"), ("/b", "same", "/")), 1),
    ((("/a", "file", "x"), ("/b", "same", "a")), 1),
    ((("/a", "file", "x"), ("/b", "same", None)), 1),
    ((("/a", "file", "x"), ("/b", "same", ["/a"])), 1),
    ((("/a", "file", "x"), ("/b", "same", {})), 1),
    ((("/a", "file", "x"), ("/b", "same", ("/a",))), 1),
    # a way that is not greater than the one before
    ((("/b", "folder"), ("/a", "folder")), 1),
    ((("/a", "folder"), ("/a", "folder")), 1),
    ((("/a", "folder"), ("/a", "file", "")), 1),
    ((("/a", "file", "x"), ("/a", "same", "/a")), 1),
    ((("/a", "file", "x"), ("/b", "same", "/a"), ("/b", "same", "/a")), 2),
    ((("/a", "folder"), ("/aa", "folder"), ("/a/b", "folder")), 2),
    ((("/a", "folder"), ("/c", "folder"), ("/b", "folder"), ("/d", "folder")), 2),
    ((("/a", "folder"), ("/a/b", "folder"), ("/a", "folder")), 2),
    # a folder that is lacking, or is none, or is not ahead
    ((("/a/b", "folder"),), 0),
    ((("/a", "file", "x"), ("/a/b", "folder")), 1),
    ((("/a", "file", "x"), ("/a/b", "file", "x")), 1),
    ((("/a", "file", "x"), ("/b", "same", "/a"), ("/b/c", "file", "x")), 2),
    ((("/a", "file", "x"), ("/b/c", "same", "/a")), 1),
    ((("/a/b", "folder"), ("/a", "folder")), 0),
    ((("/a", "folder"), ("/a/b/c", "folder")), 1),
    ((("/a", "folder"), ("/b/c", "folder"), ("/d", "folder")), 1),
    # a file whose least way is lacking, or is none, or is not ahead
    ((("/a", "same", "/b"),), 0),
    ((("/a", "same", "/b"), ("/b", "file", "x")), 0),
    ((("/a", "same", "/a"),), 0),
    ((("/a", "folder"), ("/b", "same", "/a")), 1),
    ((("/a", "file", "x"), ("/b", "same", "/c"), ("/c", "file", "x")), 1),
    ((("/a", "file", "x"), ("/b", "same", "/a"), ("/c", "same", "/b")), 2),
    ((("/a", "file", "x"), ("/b", "same", "/b")), 1),
    # the ninth way of a file
    (many_ways(9), 8),
    (many_ways(10), 8),
    (many_ways(8) + (("/i", "folder"), ("/i/a", "same", "/a")), 9),
    # the first of several
    ((("/a", "file", None), ("/a", "folder")), 0),
    ((("/a", "folder"), ("/c", "same", "/b"), None), 1),
    ((("/a", "folder"), None, ("/b/c", "folder")), 1),
]


def ask_way(ask):
    return lambda tree: ask(tree, "/")


QUESTIONS = [ask_way(stands), ask_way(reads), ask_way(inside), ask_way(ways_of_file), size_of_tree]
WITH_WAY = [stands, reads, inside, ways_of_file]


class Trees(unittest.TestCase):
    def check_wrong(self, value, index):
        self.assertIs(False, is_tree(value))
        for ask in QUESTIONS:
            with self.assertRaises(BadTree) as caught:
                ask(value)
            self.assertEqual({"index": index}, caught.exception.__dict__)
            self.assertIs(index is None, caught.exception.index is None)

    def test_trees(self):
        for tree in GOOD:
            with self.subTest(tree=tree):
                self.assertIs(True, is_tree(tree))
                self.assertEqual("folder", stands(tree, "/"))

    def test_long_trees(self):
        high = tuple([("/q" * many, "folder") for many in range(1, 400)])
        self.assertIs(True, is_tree(high))
        self.check_wrong(high[:200] + high[201:], 200)

    def test_each_sign_in_contents(self):
        for number in range(300):
            tree = (("/a", "file", "a" + chr(number) + "a"),)
            self.assertIs(chr(number) in SIGNS, is_tree(tree))

    def test_wrong_items(self):
        for tree, index in WRONG:
            with self.subTest(tree=tree):
                self.check_wrong(tree, index)

    def test_wrong_items_behind_good_ones(self):
        ahead = (("/", "folder"),)
        self.check_wrong(TREE + ahead, len(TREE))
        self.check_wrong(ahead + TREE, 0)
        for index in range(1, len(TREE)):
            self.check_wrong(TREE[:index] + (TREE[index - 1],) + TREE[index:], index)

    def test_no_tuples(self):
        for value in ODD + ["", "/a", "folder", [("/a", "folder")], list(TREE), dict([(TREE, TREE)])]:
            self.check_wrong(value, None)

    def test_items_of_other_kinds(self):
        for value in ODD_TUPLES:
            self.check_wrong(value, 0)
        for value in ODD + ODD_TUPLES + [(), ""]:
            self.check_wrong((value,), 0)
            self.check_wrong((("/a", "folder"), value), 1)
            self.check_wrong(((value, "folder"),), 0)
            self.check_wrong(((value, "file", "x"),), 0)
            self.check_wrong((("/a", value),), 0)
            self.check_wrong((("/a", value, "x"),), 0)
            self.check_wrong((("/a", "file", "x"), ("/b", "same", value), ("/c", "folder")), 1)
            self.check_wrong(((value, value),), 0)
            self.check_wrong(((value, value, value),), 0)
        for value in ODD + ODD_TUPLES + [()]:
            self.check_wrong((("/a", "folder"), ("/b", "file", value), ("/c", "folder")), 1)

    def test_an_item_that_is_a_way(self):
        self.check_wrong(("/a",), 0)
        self.check_wrong(("/a", "folder"), 0)


class Questions(unittest.TestCase):
    def test_stands(self):
        for way, told in [
            ("/", "folder"), ("/a", "folder"), ("/a/b", "folder"), ("/a/b/f", "file"), ("/a/g", "file"), ("/ab", "file"),
            ("/z", "file"), ("/b/h", "file"), ("/c", None), ("/a/d", None), ("/a/bc", None), ("/f", None),
            ("/c/d", None), ("/ab/c", None), ("/z/c", None), ("/c/d/e", None), ("/a/b/f/g", None),
        ]:
            with self.subTest(way=way):
                self.assertEqual(told, stands(TREE, way))
        self.assertEqual("folder", stands((), "/"))
        self.assertIs(None, stands((), "/a"))

    def test_reads(self):
        for way, told in [
            ("/a/b/f", "deep"), ("/a/g", "deep"), ("/b/h", "deep"), ("/ab", ""), ("/z", ""), ("/b/a", "x.y"),
        ]:
            with self.subTest(way=way):
                self.assertEqual(told, reads(TREE, way))

    def test_ways_of_file(self):
        for way, told in [
            ("/a/b/f", ("/a/b/f", "/a/g", "/b/h")), ("/a/g", ("/a/b/f", "/a/g", "/b/h")),
            ("/b/h", ("/a/b/f", "/a/g", "/b/h")), ("/ab", ("/ab", "/z")), ("/z", ("/ab", "/z")), ("/b/a", ("/b/a",)),
        ]:
            with self.subTest(way=way):
                self.assertEqual(told, ways_of_file(TREE, way))
        self.assertEqual(8, len(ways_of_file(many_ways(8), "/h")))

    def test_alike_contents_are_unlike_files(self):
        tree = (("/a", "file", "x"), ("/b", "file", "x"), ("/c", "same", "/b"))
        self.assertEqual(("/a",), ways_of_file(tree, "/a"))
        self.assertEqual(("/b", "/c"), ways_of_file(tree, "/b"))

    def test_no_file(self):
        for way in ("/", "/a", "/a/b", "/c", "/ab/c", "/c/d", "/a/b/f/g"):
            for ask in (reads, ways_of_file):
                with self.subTest(ask=ask.__name__, way=way), self.assertRaises(NotFile):
                    ask(TREE, way)

    def test_inside(self):
        for way, told in [
            ("/", ("a", "ab", "b", "z")), ("/a", ("b", "c", "g")), ("/a/b", ("f",)), ("/a/c", ()), ("/b", ("a", "h")),
        ]:
            with self.subTest(way=way):
                self.assertEqual(told, inside(TREE, way))
        self.assertEqual((), inside((), "/"))

    def test_no_folder(self):
        for way in ("/ab", "/z", "/a/b/f", "/a/g", "/c", "/c/d", "/ab/c", "/a/b/f/g"):
            with self.subTest(way=way), self.assertRaises(NotFolder):
                inside(TREE, way)

    def test_size(self):
        self.assertEqual((0, 0, 0), size_of_tree(()))
        self.assertEqual((4, 3, 7), size_of_tree(TREE))
        self.assertEqual((0, 1, 2), size_of_tree(many_ways(8)))
        self.assertEqual((0, 2, 4000), size_of_tree((("/a", "file", "a" * 2000), ("/b", "file", "a" * 2000))))
        self.assertEqual((1, 0, 0), size_of_tree((("/a", "folder"),)))


class WrongArguments(unittest.TestCase):
    def test_wrong_ways(self):
        values = ODD + ODD_TUPLES + ["", "a", "//", "/a/", "/A", "/abcdefghi", "/a\n", ("/a",), ("a",)]
        for ask in WITH_WAY:
            for value in values:
                for tree in ((), TREE):
                    with self.assertRaises(BadWay):
                        ask(tree, value)

    def test_the_tree_is_looked_at_first(self):
        for ask in WITH_WAY:
            for tree, index in [(None, None), ([], None), ((None,), 0), (TREE + TREE, len(TREE))]:
                for way in ("", None, [], "/", "/nothing"):
                    with self.assertRaises(BadTree) as caught:
                        ask(tree, way)
                    self.assertEqual(index, caught.exception.index)

    def test_the_way_is_looked_at_ahead_of_what_stands_there(self):
        for ask in (reads, inside, ways_of_file):
            with self.assertRaises(BadWay):
                ask(TREE, "/nothing/")

    def test_arguments_stay_as_they_were(self):
        for tree in ([("/a", "folder")], (["/a", "folder"],), {"/a": "folder"}):
            before = copy.deepcopy(tree)
            for ask in QUESTIONS:
                with self.assertRaises(BadTree):
                    ask(tree)
            self.assertEqual(before, tree)


if __name__ == "__main__":
    unittest.main()
