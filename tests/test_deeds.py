"""Points 5 to 7: deeds, what is behind them, and their refusals."""

import copy
import unittest

from keptanyhow.deeds import changes, done, done_all, is_deed, let_by
from keptanyhow.errors import (
    BadDeed, BadDeeds, BadPlace, BadTree, Inside, IsThere, KeepError, NotEmpty, NotFile, NotFolder, NotThere, TooLong,
)
from keptanyhow.trees import is_tree
from tests.nested import WAYS, done_nested, random_deed, some_chance
from tests.values import ODD, ODD_TUPLES, deep

LONG = "a" * 2000
GOOD = [
    ("folder", "/a"), ("folder", "/a/b/c"), ("file", "/a", ""), ("file", "/a/b", "hi"), ("file", "/a", LONG),
    ("write", "/a", 0, ""), ("write", "/a", 2000, LONG), ("write", "/a", 1, "x"), ("cut", "/a", 0), ("cut", "/a", 2000),
    ("link", "/a", "/b"), ("link", "/a", "/a"), ("move", "/a", "/a/b"), ("move", "/a", "/b"), ("move", "/a", "/a"),
    ("drop", "/a"), ("drop", "/abcdefgh/abcdefgh"),
]
BAD = [
    (), ("folder",), ("folder", "/a", ""), ("folder", "/a", None), ("file", "/a"), ("file", "/a", "", ""),
    ("write", "/a", 0), ("write", "/a", ""), ("write", "/a", "", 0), ("write", "/a", 0, "", ""), ("cut", "/a"),
    ("cut", "/a", 0, 0), ("cut", "/a", "0"), ("link", "/a"), ("link", "/a", "/b", "/c"), ("move", "/a"),
    ("move", "/a", "/b", "/c"), ("drop",), ("drop", "/a", "/b"), ("bundle",), ("bundle", (), ()), ("/a", "folder"),
    ("same", "/a", "/b"), ("Folder", "/a"), ("folders", "/a"), ("", "/a"), ("sync",), ("cut", (0,), 0), (None, "/a"),
    ("write", "/a", -1, ""), ("write", "/a", 2001, ""), ("write", "/a", True, ""), ("write", "/a", False, ""),
    ("write", "/a", None, ""), ("write", "/a", "1", ""), ("cut", "/a", -1), ("cut", "/a", 2001), ("cut", "/a", True),
    ("cut", "/a", False), ("cut", "/a", None), ("file", "/a", LONG + "a"), ("write", "/a", 0, LONG + "a"),
    ("file", "/a", "\n"), ("write", "/a", 0, "%"), ("file", "/a", None), ("file", "/a", 0), ("write", "/a", 0, 0),
    ["folder", "/a"], ["bundle", (("folder", "/a"),)], "folder /a", "folder",
]
TREE = (
    ("/a", "folder"),
    ("/a/b", "folder"),
    ("/a/b/f", "file", "deep"),
    ("/a/c", "folder"),
    ("/a/g", "same", "/a/b/f"),
    ("/ab", "file", "xyz"),
    ("/d", "folder"),
    ("/z", "same", "/ab"),
)


def bundle(*deeds):
    return ("bundle", deeds)


class Forms(unittest.TestCase):
    def check_bad(self, value):
        self.assertIs(False, is_deed(value))
        for ask in (done, let_by, changes):
            with self.assertRaises(BadDeed):
                ask((), value)
        with self.assertRaises(BadDeeds) as caught:
            done_all((), (("folder", "/q"), value, None))
        self.assertEqual(1, caught.exception.index)

    def test_simple_deeds(self):
        for deed in GOOD:
            self.assertIs(True, is_deed(deed))
            self.assertIs(True, is_deed(bundle(deed)))

    def test_what_is_none(self):
        for value in BAD:
            self.check_bad(value)
            self.check_bad(bundle(value))
            self.check_bad(bundle(("folder", "/a"), value))

    def test_other_kinds(self):
        for value in ODD + ODD_TUPLES:
            self.check_bad(value)
            self.check_bad(bundle(value))
            self.check_bad(("bundle", value))
            self.check_bad((value, "/a"))
            for deed in GOOD:
                for index in range(len(deed)):
                    # Some of the odd values are numbers, or strings that cannot stand where they are put.
                    if not (isinstance(deed[index], int) and value is not True and value is not False and value in (0, 1)):
                        self.check_bad(deed[:index] + (value,) + deed[index + 1:])

    def test_wrong_ways(self):
        for way in ("/", "", "a", "//", "/a/", "/A", "/abcdefghi", "/a\n", ("/a",), ["/a"]):
            for deed in GOOD:
                self.check_bad((deed[0], way) + deed[2:])
            for word in ("link", "move"):
                self.check_bad((word, "/a", way))

    def test_how_many_in_a_bundle(self):
        for many, told in [(0, False), (1, True), (6, True), (7, False), (100, False)]:
            self.assertIs(told, is_deed(("bundle", (("folder", "/a"),) * many)))
        self.check_bad(("bundle", ()))
        self.check_bad(("bundle", (("folder", "/a"),) * 7))
        self.check_bad(("bundle", [("folder", "/a")]))
        self.check_bad(("bundle", ("folder", "/a")))
        self.check_bad(("bundle", {("folder", "/a"): True}))

    def test_other_words_ahead_of_deeds(self):
        for word in ("folder", "sync", "Bundle", "bundles", "", None, 0, ("bundle",), ["bundle"]):
            self.check_bad((word, (("folder", "/a"),)))

    def test_no_bundle_in_a_bundle(self):
        self.check_bad(bundle(bundle(("folder", "/a"))))
        self.check_bad(bundle(("folder", "/a"), bundle(("folder", "/b"))))

    def test_deep_values(self):
        self.check_bad(deep(5000))
        self.check_bad(("bundle", deep(5000)))
        self.check_bad(("file", "/a", deep(5000)))


class Behind(unittest.TestCase):
    def check(self, tree, deed, behind):
        self.assertIs(True, is_tree(tree))
        self.assertIs(True, is_tree(behind))
        self.assertEqual(behind, done(tree, deed))
        self.assertEqual(behind, done(tree, bundle(deed)))
        self.assertEqual(behind, done_all(tree, (deed,)))
        self.assertIs(True, let_by(tree, deed))

    def test_make(self):
        self.check((), ("folder", "/a"), (("/a", "folder"),))
        self.check((), ("file", "/a", ""), (("/a", "file", ""),))
        self.check((), ("file", "/a", LONG), (("/a", "file", LONG),))
        self.check((("/b", "folder"),), ("file", "/b/a", "x"), (("/b", "folder"), ("/b/a", "file", "x")))
        self.check((("/b", "folder"),), ("folder", "/a"), (("/a", "folder"), ("/b", "folder")))

    def test_write(self):
        for text, place, contents, behind in [
            ("", 0, "", ""), ("", 0, "ab", "ab"), ("abc", 0, "", "abc"), ("abc", 0, "X", "Xbc"), ("abc", 1, "XY", "aXY"),
            ("abc", 2, "XYZ", "abXYZ"), ("abc", 3, "XY", "abcXY"), ("abc", 3, "", "abc"), ("abc", 0, "WXYZ", "WXYZ"),
            ("", 0, LONG, LONG), (LONG, 2000, "", LONG), (LONG, 1999, "z", LONG[1:] + "z"), (LONG, 0, "b" * 2000, "b" * 2000),
        ]:
            self.check((("/f", "file", text),), ("write", "/f", place, contents), (("/f", "file", behind),))

    def test_write_by_another_way(self):
        tree = (("/f", "file", "abc"), ("/g", "same", "/f"))
        self.check(tree, ("write", "/g", 1, "X"), (("/f", "file", "aXc"), ("/g", "same", "/f")))
        self.check(tree, ("cut", "/g", 1), (("/f", "file", "a"), ("/g", "same", "/f")))

    def test_cut(self):
        for text, length, behind in [("", 0, ""), ("abc", 0, ""), ("abc", 2, "ab"), ("abc", 3, "abc"), (LONG, 2000, LONG)]:
            self.check((("/f", "file", text),), ("cut", "/f", length), (("/f", "file", behind),))

    def test_link(self):
        tree = (("/b", "file", "x"),)
        self.check(tree, ("link", "/b", "/c"), (("/b", "file", "x"), ("/c", "same", "/b")))
        self.check(tree, ("link", "/b", "/a"), (("/a", "file", "x"), ("/b", "same", "/a")))
        self.check(
            tree + (("/c", "same", "/b"),), ("link", "/c", "/a"),
            (("/a", "file", "x"), ("/b", "same", "/a"), ("/c", "same", "/a")))

    def test_drop(self):
        self.check((("/a", "folder"),), ("drop", "/a"), ())
        self.check((("/a", "file", "x"),), ("drop", "/a"), ())
        self.check((("/a", "folder"), ("/ab", "folder"), ("/ab/c", "folder")), ("drop", "/a"),
                   (("/ab", "folder"), ("/ab/c", "folder")))

    def test_drop_of_the_least_way(self):
        tree = (("/a", "file", "x"), ("/b", "same", "/a"), ("/c", "same", "/a"))
        self.check(tree, ("drop", "/a"), (("/b", "file", "x"), ("/c", "same", "/b")))
        self.check(tree, ("drop", "/b"), (("/a", "file", "x"), ("/c", "same", "/a")))
        self.check(tree, ("move", "/a", "/z"), (("/b", "file", "x"), ("/c", "same", "/b"), ("/z", "same", "/b")))

    def test_move_of_a_file(self):
        tree = (("/a", "file", "x"), ("/b", "folder"), ("/c", "file", "y"), ("/d", "same", "/c"))
        self.check(tree, ("move", "/a", "/b/a"), (("/b", "folder"), ("/b/a", "file", "x")) + tree[2:])
        self.check(tree, ("move", "/a", "/c"), (("/b", "folder"), ("/c", "file", "x"), ("/d", "file", "y")))
        self.check(tree, ("move", "/a", "/d"), (("/b", "folder"), ("/c", "file", "y"), ("/d", "file", "x")))
        self.check(tree, ("move", "/c", "/a"), (("/a", "file", "y"), ("/b", "folder"), ("/d", "same", "/a")))
        self.check(tree, ("move", "/d", "/a"), (("/a", "file", "y"), ("/b", "folder"), ("/c", "same", "/a")))
        self.check((("/a", "file", "x"), ("/b", "file", "y")), ("move", "/a", "/b"), (("/b", "file", "x"),))

    def test_move_of_a_folder(self):
        self.check(TREE, ("move", "/a", "/d/q"), (
            ("/ab", "file", "xyz"), ("/d", "folder"), ("/d/q", "folder"), ("/d/q/b", "folder"),
            ("/d/q/b/f", "file", "deep"), ("/d/q/c", "folder"), ("/d/q/g", "same", "/d/q/b/f"), ("/z", "same", "/ab")))
        self.check(TREE, ("move", "/a/b", "/x"), (
            ("/a", "folder"), ("/a/c", "folder"), ("/a/g", "file", "deep"), ("/ab", "file", "xyz"), ("/d", "folder"),
            ("/x", "folder"), ("/x/f", "same", "/a/g"), ("/z", "same", "/ab")))
        self.check(TREE, ("move", "/a/b", "/a/bc"), (
            ("/a", "folder"), ("/a/bc", "folder"), ("/a/bc/f", "file", "deep"), ("/a/c", "folder"),
            ("/a/g", "same", "/a/bc/f")) + TREE[5:])

    def test_bundles_are_done_in_order(self):
        self.assertEqual(
            (("/a", "folder"), ("/a/f", "file", "yo")),
            done((), bundle(("file", "/f", "hi"), ("folder", "/a"), ("move", "/f", "/a/f"), ("write", "/a/f", 0, "yo"))))
        self.assertEqual((), done((), bundle(("folder", "/a"), ("drop", "/a"))))

    def test_like_nested_folders(self):
        chance = some_chance(6)
        tree, refused, let = (), 0, 0
        for turn in range(9000):
            if turn % 60 == 0:
                tree = ()
            deed = random_deed(chance, WAYS)
            try:
                told = done_nested(tree, deed)
            except KeepError as error:
                refused += 1
                with self.assertRaises(error.__class__):
                    done(tree, deed)
                self.assertIs(False, let_by(tree, deed))
            else:
                let += 1
                self.assertEqual(told, done(tree, deed), (tree, deed))
                self.assertIs(True, let_by(tree, deed))
                self.assertIs(True, is_tree(told))
                tree = told
        self.assertGreater(min(refused, let), 500)


class Refusals(unittest.TestCase):
    def check(self, tree, deed, error):
        for ask in (done, changes):
            for one in (deed, bundle(deed)):
                with self.assertRaises(error) as caught:
                    ask(tree, one)
                self.assertIs(error, caught.exception.__class__)
        with self.assertRaises(error):
            done_all(tree, (deed,))
        self.assertIs(False, let_by(tree, deed))

    def deeds_at(self, way):
        return [("folder", way), ("file", way, ""), ("write", way, 0, ""), ("cut", way, 0), ("link", way, "/y"),
                ("move", way, "/y"), ("drop", way)]

    def test_what_is_above(self):
        for way, error in [
            ("/n/x", NotThere), ("/n/x/y", NotThere), ("/a/n/x", NotThere), ("/ab/x", NotFolder), ("/z/x", NotFolder),
            ("/a/g/x", NotFolder), ("/a/b/f/x", NotFolder), ("/ab/x/y", NotFolder), ("/a/g/x/y/z", NotFolder),
        ]:
            for deed in self.deeds_at(way):
                self.check(TREE, deed, error)
            for word in ("link", "move"):
                self.check(TREE, (word, "/ab", way), error)
            self.check(TREE, ("move", "/d", way), error)

    def test_something_or_nothing_stands_there(self):
        for way in ("/a", "/ab", "/z", "/a/b", "/a/g"):
            for deed in self.deeds_at(way)[:2]:
                self.check(TREE, deed, IsThere)
        for way in ("/n", "/a/n", "/d/n"):
            for deed in self.deeds_at(way)[2:]:
                self.check(TREE, deed, NotThere)

    def test_no_file(self):
        for way in ("/a", "/a/b", "/d"):
            for deed in self.deeds_at(way)[2:5]:
                self.check(TREE, deed, NotFile)

    def test_places_and_lengths(self):
        self.check(TREE, ("write", "/z", 4, ""), BadPlace)
        self.check(TREE, ("write", "/z", 2000, LONG), BadPlace)
        self.check(TREE, ("write", "/z", 3, LONG[:1998]), TooLong)
        self.check(TREE, ("write", "/z", 1, LONG), TooLong)
        self.check((("/f", "file", LONG),), ("write", "/f", 2000, "a"), TooLong)
        self.check((("/f", "file", ""),), ("write", "/f", 1, LONG), BadPlace)
        self.check(TREE, ("cut", "/z", 4), BadPlace)
        self.check(TREE, ("cut", "/ab", 2000), BadPlace)
        self.assertIs(True, let_by(TREE, ("write", "/z", 3, LONG[:1997])))

    def test_drop(self):
        self.check(TREE, ("drop", "/a"), NotEmpty)
        self.check(TREE, ("drop", "/a/b"), NotEmpty)
        self.assertIs(True, let_by(TREE, ("drop", "/a/c")))

    def test_link(self):
        for other in ("/a", "/ab", "/z", "/a/g", "/a/c"):
            self.check(TREE, ("link", "/ab", other), IsThere)
        self.check(TREE, ("link", "/a", "/a"), NotFile)
        eight = (("/a", "file", "x"),) + tuple([("/" + letter, "same", "/a") for letter in "bcdefgh"])
        self.check(eight, ("link", "/a", "/i"), TooLong)
        self.check(eight, ("link", "/h", "/i"), TooLong)
        self.check(eight, ("link", "/a", "/h"), IsThere)
        self.check(eight, ("link", "/a", "/i/j"), NotThere)
        self.assertIs(True, let_by(eight[:7], ("link", "/a", "/i")))
        self.assertIs(True, let_by(eight, ("move", "/a", "/i")))

    def test_move(self):
        self.check(TREE, ("move", "/a", "/a/x"), Inside)
        self.check(TREE, ("move", "/a", "/a/b/x"), Inside)
        self.check(TREE, ("move", "/a", "/a/b"), Inside)
        self.check(TREE, ("move", "/a", "/a/b/f"), Inside)
        self.check(TREE, ("move", "/a", "/a"), IsThere)
        self.check(TREE, ("move", "/ab", "/ab"), IsThere)
        self.check(TREE, ("move", "/ab", "/z"), IsThere)
        self.check(TREE, ("move", "/z", "/ab"), IsThere)
        self.check(TREE, ("move", "/a/g", "/a/b/f"), IsThere)
        self.check(TREE, ("move", "/ab", "/a"), IsThere)
        self.check(TREE, ("move", "/ab", "/d"), IsThere)
        self.check(TREE, ("move", "/a", "/d"), IsThere)
        self.check(TREE, ("move", "/a", "/ab"), IsThere)
        self.check(TREE, ("move", "/a/b", "/a"), IsThere)
        self.assertIs(True, let_by(TREE, ("move", "/ab", "/a/g")))
        self.assertIs(True, let_by((("/a", "folder"),), ("move", "/a", "/ab")))

    def test_above_the_other_way_ahead_of_inside(self):
        self.check(TREE, ("move", "/a", "/a/n/x"), NotThere)
        self.check(TREE, ("move", "/a", "/a/g/x"), NotFolder)

    def test_the_first_way_is_looked_at_first(self):
        self.check(TREE, ("move", "/n", "/ab/x"), NotThere)
        self.check(TREE, ("move", "/ab/x", "/n/x"), NotFolder)
        self.check(TREE, ("link", "/a", "/n/x"), NotFile)
        self.check(TREE, ("link", "/a", "/ab/x"), NotFile)
        self.check(TREE, ("link", "/a", "/a/b"), NotFile)
        self.check(TREE, ("link", "/n", "/ab"), NotThere)
        self.check(TREE, ("link", "/n/x", "/ab/x"), NotThere)
        self.check(TREE, ("move", "/n", "/a"), NotThere)

    def test_bundles_are_refused_whole(self):
        deeds = (("folder", "/x"), ("file", "/x/f", "hi"), ("drop", "/x"), ("drop", "/n"))
        for ask in (done, changes):
            with self.assertRaises(NotEmpty):
                ask(TREE, ("bundle", deeds))
        self.assertIs(False, let_by(TREE, ("bundle", deeds)))
        self.assertIs(True, let_by(TREE, ("bundle", deeds[:2])))
        with self.assertRaises(IsThere):
            done((), bundle(("folder", "/a"), ("folder", "/a"), ("drop", "/n")))


class Rows(unittest.TestCase):
    def test_all(self):
        deeds = (("folder", "/a"), bundle(("file", "/a/f", "hi"), ("link", "/a/f", "/g")), ("drop", "/a/f"), ("drop", "/a"))
        self.assertEqual((("/g", "file", "hi"),), done_all((), deeds))
        self.assertEqual(TREE, done_all(TREE, ()))
        with self.assertRaises(NotThere):
            done_all((), deeds + (("drop", "/a"), ("drop", "/g")))

    def test_how_many(self):
        deeds = (("folder", "/a"), ("drop", "/a")) * 100
        self.assertEqual((), done_all((), deeds))
        for value in (deeds + deeds[:1], deeds * 2, list(deeds), None, "", {}, 0, True, BadDeeds(0)):
            with self.assertRaises(BadDeeds) as caught:
                done_all((), value)
            self.assertEqual({"index": None}, caught.exception.__dict__)

    def test_the_first_that_is_none(self):
        for index in (0, 1, 5):
            deeds = [("drop", "/n")] * 10
            deeds[index] = ("drop", "/")
            deeds[7] = None
            with self.assertRaises(BadDeeds) as caught:
                done_all((), tuple(deeds))
            self.assertEqual({"index": index}, caught.exception.__dict__)

    def test_changes(self):
        for deed, go, come in [
            (("folder", "/x"), (), (("/x", "folder"),)),
            (("drop", "/ab"), (("/ab", "file", "xyz"), ("/z", "same", "/ab")), (("/z", "file", "xyz"),)),
            (("write", "/z", 0, ""), (), ()),
            (("write", "/z", 3, "!"), (("/ab", "file", "xyz"),), (("/ab", "file", "xyz!"),)),
            (("move", "/a/b", "/b"),
             (("/a/b", "folder"), ("/a/b/f", "file", "deep"), ("/a/g", "same", "/a/b/f")),
             (("/a/g", "file", "deep"), ("/b", "folder"), ("/b/f", "same", "/a/g"))),
            (bundle(("folder", "/x"), ("drop", "/x")), (), ()),
        ]:
            self.assertEqual((go, come), changes(TREE, deed))

    def test_changes_tell_the_lines(self):
        chance = some_chance(7)
        tree = ()
        for _ in range(1500):
            deed = random_deed(chance, WAYS)
            if let_by(tree, deed):
                behind = done(tree, deed)
                go, come = changes(tree, deed)
                self.assertEqual(sorted(set(tree) - set(behind)), list(go))
                self.assertEqual(sorted(set(behind) - set(tree)), list(come))
                tree = behind


class WrongArguments(unittest.TestCase):
    def test_the_tree_is_looked_at_first(self):
        for tree, index in [(None, None), ([], None), ((None,), 0), (TREE + TREE, len(TREE))]:
            for deed in (("folder", "/a"), ("folder",), None, ("drop", "/n")):
                for ask in (done, let_by, changes):
                    with self.assertRaises(BadTree) as caught:
                        ask(tree, deed)
                    self.assertEqual(index, caught.exception.index)
            for deeds in ((), None, (None,)):
                with self.assertRaises(BadTree) as caught:
                    done_all(tree, deeds)
                self.assertEqual(index, caught.exception.index)

    def test_deeds_are_looked_at_ahead_of_what_they_do(self):
        with self.assertRaises(BadDeeds) as caught:
            done_all((), (("drop", "/n"), ("drop", "/")))
        self.assertEqual(1, caught.exception.index)

    def test_arguments_stay_as_they_were(self):
        for value in (["folder", "/a"], ("bundle", [("folder", "/a")]), {"folder": "/a"}):
            before = copy.deepcopy(value)
            self.assertIs(False, is_deed(value))
            with self.assertRaises(BadDeed):
                done((), value)
            self.assertEqual(before, value)


if __name__ == "__main__":
    unittest.main()
