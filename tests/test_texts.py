"""Point 45: trees, deeds and images as texts."""

import copy
import unittest

from keptanyhow.cuts import image_of
from keptanyhow.deeds import done
from keptanyhow.errors import BadDeed, BadImage, BadTree, InvalidText, NotMade, NotText
from keptanyhow.images import new_image
from keptanyhow.texts import read_deed, read_image, read_tree, write_deed, write_image, write_tree
from keptanyhow.ways import SIGNS
from tests.nested import WAYS, random_deed, random_let_by, some_chance
from tests.refusing import NOTHING, check_raises
from tests.values import deep

BLANK = (0,) * 64
NO_TEXTS = [value for value in NOTHING if not isinstance(value, str)] + [(), ("/a/",), ["/a/"], {}, 0]


def bundle(*deeds):
    return ("bundle", deeds)


class Trees(unittest.TestCase):
    def check(self, tree, text):
        self.assertEqual(text, write_tree(tree))
        self.assertEqual(tree, read_tree(text))

    def check_wrong(self, text, line):
        check_raises(self, InvalidText(line), read_tree, text)

    def test_lines(self):
        self.check((), "")
        self.check((("/a", "folder"),), "/a/")
        self.check((("/f", "file", ""),), "/f = ")
        self.check((("/a", "folder"), ("/a/f", "file", "hi"), ("/ab", "folder"), ("/g", "same", "/a/f")),
                   "/a/\n/a/f = hi\n/ab/\n/g > /a/f")

    def test_contents_with_signs(self):
        for contents in [" ", "  ", " = ", "=", " =", "= ", " > /f", "/", "x/", " ; ", SIGNS, "/g > /f", "/f = x", "x" * 2000, "one ; ", "-", "."]:
            self.check((("/f", "file", contents), ("/g", "same", "/f")), "/f = " + contents + "\n/g > /f")

    def test_random_trees(self):
        chance = some_chance(91)
        tree = ()
        for _ in range(150):
            tree = done(tree, random_let_by(chance, tree, WAYS))
            text = write_tree(tree)
            self.assertEqual(len(tree), len(text.split("\n")) if text else 0)
            self.assertEqual(tree, read_tree(text))

    def test_lines_that_are_none(self):
        for line in [
            "", " ", "/", "//", "/a", "a/", "/a//", "/A/", "/a/ ", " /a/", "/abcdefghi/", "/a b/", "/a =", "/a= x", "/a =x", "/a  = x", "/a ", "/a >",
            "/a > ", "/a > /a", "/a > /b", "/a > b", "/ = x", "a = x", "/a/ = x", "/a = #", "/a = \t", "/a = x\r", "/a/\r", "/a = " + "x" * 2001,
            "-", ".", "/a/ > /b", "/a == x", "/a = x ~", "/a\x00/", "/a = \u00e4", "/a > /f ", "/a >  /f", "folder /a", "= x", " = x", " > /a",
        ]:
            with self.subTest(line=line):
                if line:
                    self.check_wrong(line, 1)
                self.check_wrong(line + "\n/z/", 1)
                self.check_wrong("/Z/\n" + line, 1)
                self.check_wrong("/a/\n" + line, 2)
                self.check_wrong("/a/\n/a/f = x\n" + line + "\n/z/\n?", 3)

    def test_line_breaks_too_many(self):
        self.check_wrong("\n", 1)
        self.check_wrong("/a/\n", 2)
        self.check_wrong("\n/a/", 1)
        self.check_wrong("/a/\n\n/b/", 2)
        self.check_wrong("/a/\r\n/b/", 1)

    def test_lines_that_cannot_stand_there(self):
        self.check_wrong("/b/\n/a/", 2)
        self.check_wrong("/a/\n/a/", 2)
        self.check_wrong("/a = x\n/a/b = y", 2)
        self.check_wrong("/a/\n/b/c/", 2)
        self.check_wrong("/a/\n/b > /a", 2)
        self.check_wrong("/a > /b\n/b = x", 1)
        self.check_wrong("/a = x\n/b > /a\n/c > /b", 3)
        ways = "/a = x\n" + "\n".join(["/" + letter + " > /a" for letter in "bcdefgh"])
        self.assertEqual(8, len(read_tree(ways)))
        self.check_wrong(ways + "\n/i > /a", 9)
        self.check_wrong(ways + "\n/i > /a\n?", 9)

    def test_wrong_values(self):
        for value in NO_TEXTS:
            check_raises(self, NotText(), read_tree, value)
        for value in NOTHING + ["", "/a/"]:
            check_raises(self, BadTree(0 if isinstance(value, tuple) else None), write_tree, value)
        check_raises(self, BadTree(1), write_tree, (("/a", "folder"),) * 2)


class Deeds(unittest.TestCase):
    def check(self, deed, text):
        self.assertEqual(text, write_deed(deed))
        self.assertEqual(deed, read_deed(text))

    def check_wrong(self, text):
        check_raises(self, InvalidText(1), read_deed, text)

    def test_simple_deeds(self):
        self.check(("folder", "/a"), "folder /a")
        self.check(("file", "/a/f", "hi"), "file /a/f = hi")
        self.check(("file", "/f", ""), "file /f = ")
        self.check(("write", "/f", 3, "x y"), "write /f 3 = x y")
        self.check(("write", "/f", 0, ""), "write /f 0 = ")
        self.check(("write", "/f", 2000, "2000"), "write /f 2000 = 2000")
        self.check(("cut", "/f", 0), "cut /f 0")
        self.check(("cut", "/f", 2000), "cut /f 2000")
        self.check(("link", "/a", "/b"), "link /a /b")
        self.check(("move", "/a/b", "/c"), "move /a/b /c")
        self.check(("drop", "/a"), "drop /a")

    def test_bundles(self):
        self.check(bundle(("drop", "/a")), "one ; drop /a")
        self.check(bundle(("drop", "/a"), ("file", "/b", "x"), ("cut", "/b", 1)), "drop /a ; file /b = x ; cut /b 1")
        self.check(bundle(*[("drop", "/a")] * 6), " ; ".join(["drop /a"] * 6))
        self.check(bundle(("file", "/a", ""), ("drop", "/a")), "file /a =  ; drop /a")
        self.check(bundle(("file", "/a", "")), "one ; file /a = ")
        self.check(bundle(("drop", "/a"), ("file", "/a", "")), "drop /a ; file /a = ")

    def test_contents_with_signs(self):
        for contents in [" ", " = ", "=", "= x", "a = b = c", ";", " ;", ";;", "x;", "one", " > ", "drop /a", SIGNS, "x" * 2000, "-", " "]:
            self.check(("file", "/f", contents), "file /f = " + contents)
            self.check(("write", "/f", 7, contents), "write /f 7 = " + contents)
            self.check(bundle(("file", "/f", contents)), "one ; file /f = " + contents)
            self.check(bundle(("drop", "/a"), ("file", "/f", contents)), "drop /a ; file /f = " + contents)

    def test_texts_that_would_be_read_as_something_else(self):
        for contents in [" ; ", "a ; b", "x ; drop /a", "; x", "; ", " ; one", " ; file /f = x"]:
            for deed in [("file", "/f", contents), ("write", "/f", 0, contents)]:
                for whole in (deed, bundle(deed), bundle(deed, ("drop", "/f")), bundle(("drop", "/a"), deed)):
                    check_raises(self, NotMade(), write_deed, whole)
        # What is no sign between deeds at the end of a text can be one ahead of another deed.
        for contents in [" ;", "x ;", "a;b ;"]:
            deed = ("file", "/f", contents)
            self.check(deed, "file /f = " + contents)
            check_raises(self, NotMade(), write_deed, bundle(deed, ("drop", "/f")))
        for contents in ["x;", " ", "x ", ";;"]:
            self.check(bundle(("file", "/f", contents), ("drop", "/f")), "file /f = " + contents + " ; drop /f")

    def test_random_deeds(self):
        chance = some_chance(92)
        for _ in range(2000):
            deed = random_deed(chance, WAYS)
            self.assertEqual(deed, read_deed(write_deed(deed)))

    def test_texts_that_are_none(self):
        for text in [
            "", " ", "drop", "drop ", "drop /", "drop a", "drop /A", " drop /a", "drop  /a", "drop /a ", "drop /a /b", "Drop /a", "drop /a = x", "drop /a = ",
            "folder", "folder /a = ", "folder /a/", "file /f", "file /f =", "file /f x", "file  = x", "file = x", "file /f  = x", "file /f= x", "file /f =x",
            "file /f 0 = x", "file /f = #", "file /f = " + "x" * 2001, "write /f = x", "write /f 0", "write /f 0 x", "write 0 /f = x", "write /f 0 1 = x",
            "write /f 0 = \n", "write /f x = x", "write /f = 0 = x", "cut /f", "cut /f 1 2", "cut /f x", "cut 0", "cut /f = 0", "link /a", "link /a /b /c",
            "move /a", "move /a /", "move /a b", "sync", "cut sync", "one", "one ; ", "one ; one", "one ; drop /a ; drop /b", "one ; one ; drop /a",
            "bundle drop /a", "drop /a ; ", " ; drop /a", "drop /a ;", "drop /a; drop /b", "drop /a ;  drop /b", "drop /a  ; drop /b",
            "drop /a ; ; drop /b", "drop /a ; one", "drop /a ; sync", " ; ".join(["drop /a"] * 7), "drop /a\n", "\ndrop /a", "drop /a\ndrop /b", "drop\t/a",
            "drop /a ; file /f", "drop /a ; drop", "tree", "file /f = x\n", "file /f = \u00e4", "drop /\u00e4", "= x", " = ", "one ; file /f = x ; y",
        ]:
            with self.subTest(text=text):
                self.check_wrong(text)

    def test_numbers(self):
        for number in ["00", "01", "007", "0000", "-1", "-0", "+1", "1.0", "1e1", "12345", "00001", "2001", "9999", "10000", "1_0", " 1", "1 ", "0x1", "\u0661",
                       "\u00b2", "10000000000000000000000000", ""]:
            self.check_wrong("cut /f " + number)
            self.check_wrong("write /f " + number + " = x")
        for number in (0, 9, 10, 99, 1000, 1999, 2000):
            self.assertEqual(("cut", "/f", number), read_deed("cut /f " + str(number)))

    def test_wrong_values(self):
        for value in NO_TEXTS:
            check_raises(self, NotText(), read_deed, value)
        for value in NOTHING + ["", "drop /a", (), ("drop", "/"), bundle(), bundle(bundle(("drop", "/a"))), ("cut", "/f", True), ("one", ("drop", "/a"))]:
            check_raises(self, BadDeed(), write_deed, value)


class Images(unittest.TestCase):
    def check_wrong(self, text, line):
        check_raises(self, InvalidText(line), read_image, text)

    def test_images(self):
        page = tuple(range(64))
        image = (BLANK, None, page, (255,) * 64, (0,) * 63 + (1,))
        text = write_image(image)
        lines = text.split("\n")
        self.assertEqual([".", "-"], lines[:2])
        self.assertEqual("000102030405060708090a0b0c0d0e0f101112131415161718191a1b1c1d1e1f2021", lines[2][:68])
        self.assertEqual(["f" * 128, "0" * 127 + "1"], lines[3:])
        self.assertEqual([1, 1, 128, 128, 128], [len(line) for line in lines])
        self.assertEqual(image, read_image(text))

    def test_images_of_drives(self):
        tree = (("/a", "folder"), ("/a/f", "file", "hi" * 99))
        for image in [new_image((1, 0)), new_image((24, 200)), image_of((4, 9), tree)]:
            text = write_image(image)
            self.assertEqual(image, read_image(text))
            self.assertEqual(len(image), len(text.split("\n")))

    def test_random_pages(self):
        chance = some_chance(93)
        for _ in range(40):
            image = tuple([chance.choice([None, BLANK, tuple([chance.randrange(256) for _ in range(64)])]) for _ in range(4)])
            self.assertEqual(image, read_image(write_image(image)))

    def test_how_many_lines(self):
        for many in (4, 5, 249, 250):
            self.assertEqual((None,) * many, read_image("\n".join(["-"] * many)))
        for many in (1, 2, 3):
            self.check_wrong("\n".join(["."] * many), many + 1)
        for many in (251, 252, 400):
            self.check_wrong("\n".join(["."] * many), 251)
        self.check_wrong("\n".join(["."] * 300 + ["?"]), 251)
        self.check_wrong("\n".join(["."] * 249 + ["?"] * 9), 250)
        self.check_wrong("", 1)

    def test_line_breaks_too_many(self):
        self.check_wrong("\n", 1)
        self.check_wrong(".\n.\n.\n", 4)
        self.check_wrong(".\n.\n.\n.\n", 5)
        self.check_wrong("\n.\n.\n.\n.", 1)
        self.check_wrong(".\r\n.\n.\n.", 1)

    def test_lines_that_are_none(self):
        good = "0123456789abcdef" * 8
        self.assertEqual((1, 35, 69, 103), read_image("\n".join([good] * 4))[0][:4])
        for line in ["", " ", "..", "--", ". ", "0", "f" * 127, "f" * 129, "f" * 130, "f" * 126, "0" * 128, "F" + "f" * 127, good.upper(), "g" + "f" * 127,
                     " " + "f" * 127, "f" * 127 + " ", "0x" + "f" * 126, "-" * 128, "." * 128, "blank", "+" + "f" * 127, "f_" * 64, "\u0661" * 128]:
            for place in (0, 1, 3):
                lines = [".", "-", good, good]
                lines[place] = line
                self.check_wrong("\n".join(lines), place + 1)
                self.check_wrong("\n".join(lines + ["?"]), place + 1)
            self.check_wrong(".\n" + line, 2)

    def test_wrong_values(self):
        for value in NO_TEXTS:
            check_raises(self, NotText(), read_image, value)
        for value in NOTHING + ["", (), (BLANK,) * 3, (BLANK,) * 251, [BLANK] * 4, (BLANK,) * 3 + ((0,) * 63,), (BLANK,) * 3 + ((256,) * 64,), deep(5000)]:
            check_raises(self, BadImage(), write_image, value)

    def test_arguments_stay_as_they_were(self):
        image, tree = new_image((2, 2)), (("/a", "folder"),)
        given = copy.deepcopy((image, tree))
        write_image(given[0])
        write_tree(given[1])
        self.assertEqual((image, tree), given)


if __name__ == "__main__":
    unittest.main()
