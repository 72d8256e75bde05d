"""Point 46: desks, their lines and questions, and what is taken back and done again."""

import copy
import unittest

from keptanyhow.desks import Desk
from keptanyhow.drives import Drive
from keptanyhow.errors import (
    BadPlace, BadSize, Inside, InvalidText, IsThere, KeepError, NoRoom, NotEmpty, NotFile, NotFolder, NotText, NothingToRedo,
    NothingToUndo, NotThere, TooLong, TooMany,
)
from keptanyhow.images import keeping_by, new_image
from keptanyhow.needs import least_with, leans, trees
from keptanyhow.tables import asked_ways
from keptanyhow.texts import read_deed, write_deed, write_tree
from tests.nested import random_let_by, some_chance
from tests.refusing import NOTHING, check_raises
from tests.rowing import SHORT
from tests.test_tables import looked_at

SIZE = (8, 30)
START = ("folder /a", "file /a/f = hi", "link /a/f /g", "sync", "write /g 2 = !", "drop /a/f", "folder /b")
NO_LINES = [value for value in NOTHING if not isinstance(value, str)] + [("sync",), ["sync"], (), 0]


def told(desk):
    """All that a desk tells."""
    answers = [desk.run(question) for question in ("tree", "room", "deeds", "trees", "list /", "lost /")]
    return [desk.tree, desk.image, desk.lines, answers]


class Desks(unittest.TestCase):
    def desk(self, *lines, size=SIZE):
        desk = Desk(size)
        for line in lines:
            self.assertIs(None, desk.run(line))
        return desk


class Lines(Desks):
    def test_a_new_desk(self):
        for size in [(1, 0), (24, 200), SIZE]:
            desk = Desk(size)
            self.assertEqual(((), Drive(new_image(size)).image, ()), (desk.tree, desk.image, desk.lines))
            self.assertEqual(["", "0", "1", "", "0"], [desk.run(line) for line in ("tree", "deeds", "trees", "list /", "lost /")])
        for size in NOTHING + ["", (), (1,), (0, 0), (25, 0), (1, 201), (True, 0), [1, 0], (1, 0, 0)]:
            check_raises(self, BadSize(), Desk, size)

    def test_deeds(self):
        desk = self.desk(*START)
        drive = Drive(new_image(SIZE))
        for line in START:
            drive.sync() if line == "sync" else drive.do(read_deed(line))
        self.assertEqual((drive.tree, drive.image, START), (desk.tree, desk.image, desk.lines))
        self.assertEqual((("/a", "folder"), ("/b", "folder"), ("/g", "file", "hi!")), desk.tree)
        self.assertIs(None, desk.run("drop /a ; move /b /a ; file /a/x = "))
        self.assertIs(None, desk.run("one ; drop /a/x"))
        self.assertIs(None, desk.run("cut /g 1"))
        self.assertEqual((("/a", "folder"), ("/g", "file", "h")), desk.tree)
        self.assertEqual(START + ("drop /a ; move /b /a ; file /a/x = ", "one ; drop /a/x", "cut /g 1"), desk.lines)

    def test_cuts(self):
        for numbers in ["0", "1", "2", "0 1 2", "2 2 1", "3 5 2", "999 0 998 1", " ".join(["2"] * 40), " ".join(["999"] * 40)]:
            desk = self.desk(*START)
            drive = Drive(new_image(SIZE))
            for line in START:
                drive.sync() if line == "sync" else drive.do(read_deed(line))
            drive.cut(keeping_by(drive.writes, tuple([int(word) for word in numbers.split(" ")])))
            self.assertIs(None, desk.run("cut " + numbers))
            self.assertEqual((drive.tree, drive.image), (desk.tree, desk.image))
            self.assertEqual("0", desk.run("deeds"))
            self.assertEqual(START + ("cut " + numbers,), desk.lines)
        self.assertIs(None, Desk((1, 0)).run("cut 7"))

    def test_what_a_cut_leaves(self):
        lines = ("file /f = one", "sync", "write /f 0 = two", "folder /a")
        # Pages 4, 7 and 13: the new card of the file is on page 4, its part on 13, and the folder on page 7.
        for line, tree in [("cut 1", "/f = one"), ("cut 0", "/f = one"), ("cut 2", "/a/\n/f = two"), ("cut 2 1 2", "/f = two"),
                           ("cut 2 2 1", "/a/\n/f = one"), ("cut 1 2 2", "/a/\n/f = one"), ("cut 2 0 0", "/f = one")]:
            desk = self.desk(*lines, line)
            self.assertEqual(tree, desk.run("tree"))

    def test_deeds_that_are_refused(self):
        for line, error in [
            ("drop /n", NotThere()), ("folder /g/x", NotFolder()), ("folder /a", IsThere()), ("cut /a 0", NotFile()), ("cut /g 4", BadPlace()),
            ("write /g 3 = " + "x" * 1998, TooLong()), ("file /b/x =  ; drop /b", NotEmpty()), ("move /a /a/b", Inside()), ("one ; drop /n", NotThere()),
            ("file /h = " + "x" * 1550, NoRoom("pages")), ("folder /c ; folder /d ; folder /e ; folder /i ; folder /j", NoRoom("things")),
        ]:
            desk = self.desk(*START)
            before = told(desk)
            check_raises(self, error, desk.run, line)
            self.assertEqual(before, told(desk))

    def test_lines_that_are_none(self):
        desk = self.desk(*START)
        desk.undo()
        before = told(desk)
        for line in [
            "", " ", "sync ", " sync", "Sync", "sync 0", "sync ; sync", "cut", "cut ", "cut  0", "cut 0 ", " cut 0", "cut 0  1", "cut 00", "cut 01", "cut -1",
            "cut 1000", "cut 0 1000", "cut 12345", "cut x", "cut 0,1", "cut " + " ".join(["0"] * 41), "cut 0 ; sync", "cut 0\n", "cut \u0661", "cut \u00b2", "cut 1.0",
            "tree ", "tree /", " tree", "TREE", "trees /", "trees ", "room /", "room 1", "deeds ", "deeds /a", "read", "read ", "read g", "read /g ", "read  /g",
            "read /g /g", "read //", "read /G", "list", "list ", "list a", "list /a /b", "list /a/", "lost", "lost a", "lost /a /b", "lost ", "undo", "redo",
            "drop", "drop /a /b", "file /f", "file /f = #", "cut /g", "cut /g 00", "cut /g 12345", "write /g 0", "one", "tree\n", "tree ; sync", "drop /b ; sync", "help",
        ]:
            with self.subTest(line=line):
                check_raises(self, InvalidText(1), desk.run, line)
        for value in NO_LINES:
            check_raises(self, NotText(), desk.run, value)
        self.assertEqual(before, told(desk))
        # Nothing was done since the last line was taken back.
        desk.redo()
        self.assertEqual(told(self.desk(*START)), told(desk))


class Questions(Desks):
    def test_tree_read_and_list(self):
        desk = self.desk(*START)
        self.assertEqual("/a/\n/b/\n/g = hi!", desk.run("tree"))
        self.assertEqual(["hi!", "", "a b g"], [desk.run(line) for line in ("read /g", "list /a", "list /")])
        for way in ("/a", "/", "/n", "/g/x", "/a/f"):
            check_raises(self, NotFile(), desk.run, "read " + way)
        for way in ("/g", "/n", "/g/x", "/a/f"):
            check_raises(self, NotFolder(), desk.run, "list " + way)
        desk.run("file /e = ")
        self.assertEqual(["", "a b e g"], [desk.run(line) for line in ("read /e", "list /")])

    def test_room_and_deeds(self):
        desk = Desk((4, 3))
        found = []
        for line in ("file /f = x", "write /f 0 = y", "sync", "folder /a", "drop /a", "sync", "cut 0"):
            desk.run(line)
            found.append((desk.run("room"), desk.run("deeds")))
        self.assertEqual([("2 2", "1"), ("2 1", "2"), ("2 2", "0"), ("1 2", "1"), ("1 2", "2"), ("2 2", "0"), ("2 2", "0")], found)

    def test_questions_change_nothing(self):
        desk = self.desk(*START)
        before = told(desk)
        for line in ("tree", "room", "deeds", "trees", "read /g", "list /", "lost /g", "lost /", "lost /n"):
            self.assertIsInstance(desk.run(line), str)
        self.assertEqual(before, told(desk))
        self.assertEqual(START, desk.lines)

    def test_lost(self):
        desk = self.desk(*START)
        # The three deeds since: the first two wrote the file, the third one is for itself.
        for way, many in [("/", "3"), ("/a", "3"), ("/b", "2"), ("/g", "1"), ("/a/f", "1"), ("/n", "3"), ("/a/n", "3"), ("/b/n", "2")]:
            self.assertEqual(many, desk.run("lost " + way), way)
        for way in ("/n/x", "/g/x", "/a/f/x", "/b/n/x"):
            check_raises(self, NotThere(), desk.run, "lost " + way)
        desk.run("sync")
        self.assertEqual(["0"] * 4, [desk.run("lost " + way) for way in ("/", "/a", "/g", "/a/f")])

    def test_more_deeds_than_in_a_row(self):
        desk = self.desk("folder /a", *["move /a /b", "move /b /a"] * 40)
        told_lines = ("deeds", "trees", "lost /a", "lost /b", "lost /c", "lost /")
        self.assertEqual(["81", "3", "0", "0", "81", "81"], [desk.run(line) for line in told_lines])

    def test_too_many_pasts(self):
        desk = self.desk(*["folder /" + letter for letter in "abcdefghijk"], size=(24, 0))
        self.assertEqual("2048", desk.run("trees"))
        desk.run("folder /l")
        check_raises(self, TooMany(3000), desk.run, "trees")
        self.assertEqual(["12", "11"], [desk.run(line) for line in ("deeds", "lost /l")])

    def test_like_rows(self):
        chance = some_chance(94)
        for _ in range(40):
            desk = Desk((20, 90))
            tree, deeds = (), ()
            for _ in range(chance.randrange(1, 9)):
                deed = random_let_by(chance, desk.tree, SHORT)
                desk.run(write_deed(deed))
                deeds = deeds + (deed,)
                if chance.randrange(8) == 0:
                    desk.run(chance.choice(["sync", "cut 2 1 2", "cut 1 2 3 4"]))
                    tree, deeds = desk.tree, ()
            self.assertEqual(str(len(trees(tree, deeds))), desk.run("trees"))
            self.assertEqual((str(len(deeds)), write_tree(desk.tree)), (desk.run("deeds"), desk.run("tree")))
            for way in asked_ways(tree, deeds):
                kept = least_with(tree, deeds, looked_at(tree, deeds, way))
                self.assertEqual(str(len(deeds) - len(kept)), desk.run("lost " + way))
            self.assertEqual(len(deeds), len(leans(tree, deeds)))


class Undone(Desks):
    def test_undo_and_redo(self):
        desk = Desk(SIZE)
        lines = START + ("cut 2 1", "file /x = x", "sync", "cut 0", "drop /x ; folder /x")
        states = [told(desk)]
        for line in lines:
            desk.run(line)
            states.append(told(desk))
        for turn in range(3):
            for many in range(len(lines) - 1, -1, -1):
                self.assertIs(None, desk.undo())
                self.assertEqual(states[many], told(desk))
            check_raises(self, NothingToUndo(), desk.undo)
            for many in range(1, len(lines) + 1):
                self.assertIs(None, desk.redo())
                self.assertEqual(states[many], told(desk))
            check_raises(self, NothingToRedo(), desk.redo)
        desk.undo()
        desk.undo()
        desk.redo()
        self.assertEqual(states[-2], told(desk))

    def test_nothing_to_take_back(self):
        desk = Desk(SIZE)
        check_raises(self, NothingToUndo(), desk.undo)
        check_raises(self, NothingToRedo(), desk.redo)
        desk.run("tree")
        check_raises(self, NothingToUndo(), desk.undo)
        check_raises(self, NotThere(), desk.run, "drop /a")
        check_raises(self, NothingToUndo(), desk.undo)
        desk.run("folder /a")
        check_raises(self, NothingToRedo(), desk.redo)
        desk.undo()
        check_raises(self, NothingToUndo(), desk.undo)
        self.assertEqual(told(Desk(SIZE)), told(desk))

    def test_after_questions_and_errors(self):
        desk = self.desk(*START)
        desk.undo()
        desk.run("trees")
        check_raises(self, IsThere(), desk.run, "folder /a")
        check_raises(self, InvalidText(1), desk.run, "?")
        check_raises(self, NotText(), desk.run, None)
        desk.redo()
        self.assertEqual(START, desk.lines)
        desk.run("room")
        desk.undo()
        self.assertEqual(START[:-1], desk.lines)

    def test_after_a_new_line(self):
        for line in ("folder /c", "sync", "cut 2", START[-1]):
            desk = self.desk(*START)
            desk.undo()
            desk.undo()
            desk.run(line)
            check_raises(self, NothingToRedo(), desk.redo)
            self.assertEqual(START[:-2] + (line,), desk.lines)
            desk.undo()
            desk.redo()
            self.assertEqual(told(self.desk(*START[:-2], line)), told(desk))

    def test_a_line_behind_one_that_was_taken_back(self):
        desk = self.desk("folder /a", "sync", "file /f = x")
        desk.undo()
        desk.undo()
        # The folder is not synced any more.
        self.assertEqual("1", desk.run("deeds"))
        desk.run("cut 0")
        self.assertEqual((), desk.tree)
        desk.undo()
        self.assertEqual((("/a", "folder"),), desk.tree)

    def test_random_lines(self):
        chance = some_chance(95)
        for _ in range(8):
            desk, lines, undone = Desk(SIZE), [], []
            for _ in range(50):
                turn = chance.randrange(8)
                if turn == 0 and lines:
                    desk.undo()
                    undone.append(lines.pop())
                elif turn == 1 and undone:
                    desk.redo()
                    lines.append(undone.pop())
                else:
                    line = chance.choice(["sync", "cut 1 2", "cut 2 2 3", write_deed(random_let_by(chance, desk.tree, SHORT))])
                    try:
                        desk.run(line)
                        lines.append(line)
                        undone = []
                    except KeepError:
                        pass
            self.assertEqual(tuple(lines), desk.lines)
            self.assertEqual(told(self.desk(*lines)), told(desk))

    def test_arguments_stay_as_they_were(self):
        size = copy.deepcopy(SIZE)
        Desk(size).run("folder /a")
        self.assertEqual(SIZE, size)


if __name__ == "__main__":
    unittest.main()
