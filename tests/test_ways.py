"""Point 2: names, ways, signs and contents."""

import copy
import unittest

from keptanyhow.errors import BadNames, BadWay
from keptanyhow.ways import above, is_contents, last_name, lies_below, names_in, way_of
from tests.values import ODD, ODD_TUPLES

GOOD_NAMES = ["a", "z", "m", "ab", "zz", "abcdefgh", "zzzzzzzz", "same", "folder"]
BAD_NAMES = [
    "", "abcdefghi", "a" * 100, "A", "aB", "Ab", "aBc", "0", "a1", "1a", "a_b", "a b", " a", "a ", "a\n", "\na", "a.b",
    ".", "..", "`", "{", "a-b", "/", "a/b", "a/", "/a", "\u00e9", "a\u00e9b", "\u0430", "\u00aa", "\uff41", "\x00", "a\x00",
]
BAD_WAYS = [
    "", "a", "a/b", "//", "/a/", "//a", "/a//b", "/a/b/", "/ ", " /", "/\n", "/a\n", "\n/a", "///", "a/", "\\a", "/A",
]
SIGNS = "abcdefghijklmnopqrstuvwxyzABCDEFGHIJKLMNOPQRSTUVWXYZ0123456789 .,:;=>/-+_()!?"


class GoodWays(unittest.TestCase):
    def test_root(self):
        self.assertEqual((), names_in("/"))
        self.assertEqual("/", way_of(()))

    def test_there_and_back(self):
        for names in [(name,) for name in GOOD_NAMES] + [("a", "b"), ("a", "a"), ("x", "abcdefgh", "y"), ("q",) * 500]:
            with self.subTest(names=names):
                way = "/" + "/".join(names)
                self.assertEqual(way, way_of(names))
                self.assertEqual(names, names_in(way))

    def test_above_and_last_name(self):
        for way, folder, name in [
            ("/a", "/", "a"), ("/abcdefgh", "/", "abcdefgh"), ("/a/bc", "/a", "bc"), ("/a/b/c", "/a/b", "c"),
            ("/a/a/a", "/a/a", "a"), ("/q" * 500, "/q" * 499, "q"),
        ]:
            with self.subTest(way=way):
                self.assertEqual(folder, above(way))
                self.assertEqual(name, last_name(way))

    def test_root_has_nothing_above(self):
        for ask in (above, last_name):
            with self.subTest(ask=ask), self.assertRaises(BadWay):
                ask("/")

    def test_lies_below(self):
        for one, other, told in [
            ("/a", "/", True), ("/a/b", "/", True), ("/", "/", False), ("/", "/a", False), ("/a", "/a", False),
            ("/a/b", "/a", True), ("/a", "/a/b", False), ("/ab", "/a", False), ("/a", "/ab", False),
            ("/ab/c", "/a", False), ("/a/b/c", "/a", True), ("/a/b/c", "/a/b", True), ("/a/bc", "/a/b", False),
            ("/b/a", "/a", False), ("/a/b", "/b", False), ("/a/c", "/a/b", False),
        ]:
            with self.subTest(one=one, other=other):
                self.assertIs(told, lies_below(one, other))


class WrongWays(unittest.TestCase):
    def check_wrong(self, value):
        for ask in (names_in, above, last_name):
            with self.subTest(ask=ask.__name__), self.assertRaises(BadWay):
                ask(value)
        for one, other in [(value, "/a"), ("/a", value), (value, value), (value, "/"), ("/", value)]:
            with self.subTest(one=one, other=other), self.assertRaises(BadWay):
                lies_below(one, other)

    def test_wrong_strings(self):
        for value in BAD_WAYS:
            self.check_wrong(value)

    def test_wrong_names_in_ways(self):
        # An empty name, and one with a "/" in it, may give a way: BAD_WAYS has those that give none.
        for name in [name for name in BAD_NAMES if name != "" and "/" not in name]:
            for before, behind in [("/", ""), ("/a/", ""), ("/", "/a"), ("/a/", "/a")]:
                self.check_wrong(before + name + behind)

    def test_other_values(self):
        for value in ODD:
            self.check_wrong(value)
        for names in ODD_TUPLES + [(), ("a",), ("/a",)]:
            for ask in (names_in, above, last_name):
                with self.assertRaises(BadWay):
                    ask(names)

    def test_wrong_names(self):
        for name in BAD_NAMES:
            for names in [(name,), ("a", name), (name, "a"), ("a", name, "a")]:
                with self.subTest(names=names), self.assertRaises(BadNames):
                    way_of(names)

    def test_names_of_other_kinds(self):
        for number, names in enumerate(ODD + ODD_TUPLES):
            with self.subTest(number=number), self.assertRaises(BadNames):
                way_of(names)
        for names in ["", "a", "/a", "ab", ["a", "b"], {"a": True}]:
            with self.subTest(names=names), self.assertRaises(BadNames):
                way_of(names)

    def test_arguments_stay_as_they_were(self):
        for value in (["a"], {"a": ["b"]}, (["a"],)):
            before = copy.deepcopy(value)
            for ask in (names_in, above, last_name, way_of):
                with self.assertRaises((BadWay, BadNames)):
                    ask(value)
            self.assertEqual(before, value)


class Contents(unittest.TestCase):
    def test_each_sign(self):
        self.assertEqual(77, len(SIGNS))
        for number in range(700):
            sign = chr(number)
            for text in (sign, "a" + sign, sign + "a", "a" + sign + "a"):
                with self.subTest(text=text):
                    self.assertIs(sign in SIGNS, is_contents(text))

    def test_lengths(self):
        for many, told in [(0, True), (1, True), (2000, True), (2001, False), (4000, False)]:
            for sign in "aZ0 ?":
                with self.subTest(many=many, sign=sign):
                    self.assertIs(told, is_contents(sign * many))

    def test_other_values(self):
        for value in ODD + ODD_TUPLES:
            self.assertIs(False, is_contents(value))


if __name__ == "__main__":
    unittest.main()
