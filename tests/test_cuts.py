"""Points 34, 42 and 43: which keeping leaves which past, two disks, and other sizes."""

import copy
import unittest
from itertools import product

from keptanyhow.cuts import copied_to, drive_of, image_of, joined, keeping_for, past_by
from keptanyhow.drives import Drive
from keptanyhow.errors import (
    BadDeeds, BadImage, BadKeeping, BadPast, BadSize, BadTree, NoHead, NoRoom, UnlikeImages, Unsound,
)
from keptanyhow.images import count_keepings, kept, new_image, put_all, times_written, written_numbers
from keptanyhow.needs import end, is_past, pasts, tree_of
from keptanyhow.pages import told_page, written_page
from keptanyhow.scans import cards_up, faults, greatest_stamp, head_of, tree_up
from tests.making import BLANK, base, file, headed, put, put_card, put_told
from tests.nested import some_chance
from tests.refusing import NOTHING, check_raises
from tests.rowing import SHORT, SIXTY, random_row
from tests.values import ODD, deep

TREE = (("/a", "folder"), ("/a/f", "file", "hi"), ("/b", "folder"), ("/g", "same", "/a/f"), ("/h", "file", "x" * 120))
DEEDS = (("write", "/g", 1, "o"), ("move", "/h", "/a/f"), ("bundle", (("file", "/b/k", ""), ("drop", "/b/k"))), ("drop", "/b"))
SIZE = (9, 40)
# Rows of which all keepings are tried.
ROWS = [
    ((), ()),
    (TREE, ()),
    ((), (("file", "/a", "x"), ("file", "/b", "y"), ("move", "/a", "/b"))),
    ((), (("bundle", (("file", "/a", "x"), ("file", "/b", "y"))), ("move", "/a", "/b"))),
    (TREE[:1], (("drop", "/a"), ("folder", "/a"), ("drop", "/a"))),
    ((("/f", "file", "x"),), (("link", "/f", "/g"), ("drop", "/f"), ("write", "/g", 0, "y"))),
    ((("/f", "file", "x" * 60),), (("write", "/f", 10, "y"), ("cut", "/f", 20), ("folder", "/a"))),
    ((("/a", "folder"), ("/b", "folder")), (("move", "/a", "/b/a"), ("folder", "/a"), ("move", "/b", "/a/b"))),
    ((("/a", "folder"), ("/a/f", "file", "")), (("move", "/a/f", "/f"), ("drop", "/a"), ("file", "/a", ""))),
    ((), (("bundle", (("folder", "/a"), ("folder", "/a/b"), ("drop", "/a/b"))), ("folder", "/a/b"))),
]
NO_SIZES = NOTHING + ["", (), (1,), (0, 0), (25, 0), (1, -1), (1, 201), (True, 0), (1, False), [3, 4], (3, 4, 0), {3: 4}]


class Making(unittest.TestCase):
    def made(self, size, *deeds):
        drive = Drive(new_image(size))
        for deed in deeds:
            drive.do(deed)
        drive.sync()
        return drive

    def test_image_of(self):
        deeds = (("folder", "/a"), ("file", "/a/f", "hi"), ("folder", "/b"), ("link", "/a/f", "/g"), ("file", "/h", "x" * 120))
        image = image_of(SIZE, TREE)
        self.assertEqual(self.made(SIZE, *deeds).image, image)
        self.assertEqual((), faults(image))
        self.assertEqual(TREE, tree_up(image))
        self.assertEqual(((0, 2), 5), (head_of(image)[:2], greatest_stamp(image)))

    def test_image_of_no_tree_lines(self):
        for size in [(1, 0), (24, 200), (3, 4)]:
            self.assertEqual(self.made(size).image, image_of(size, ()))
            self.assertEqual((0, 2, 0), head_of(image_of(size, ())))

    def test_how_many_things(self):
        tree = TREE[:4]
        self.assertEqual(tree, tree_up(image_of((4, 1), tree)))
        check_raises(self, NoRoom("things"), image_of, (3, 1), tree)
        check_raises(self, NoRoom("things"), image_of, (1, 200), TREE)
        many = tuple([("/" + letter, "folder") for letter in "abcdefghijklmnopqrstuvw"])
        self.assertEqual(many, tree_up(image_of((24, 0), many)))
        check_raises(self, NoRoom("things"), image_of, (24, 0), many + (("/x", "folder"),))

    def test_how_many_pages(self):
        self.assertEqual(TREE, tree_up(image_of((5, 4), TREE)))
        check_raises(self, NoRoom("pages"), image_of, (5, 3), TREE)
        for length, pages in [(0, 0), (1, 1), (50, 1), (51, 2), (100, 2), (1000, 20)]:
            tree = (("/f", "file", "x" * length),)
            self.assertEqual(tree, tree_up(image_of((2, pages + (length > 550)), tree)))
            if pages:
                check_raises(self, NoRoom("pages"), image_of, (2, pages - 1), tree)

    def test_pages_for_tails(self):
        # A card with 5 places of 8 letters, and each one with more, needs a tail that the next one cannot take.
        ways = tuple(["/abcdefg" + letter for letter in "abcdefgh"])
        tree = ((ways[0], "file", ""),) + tuple([(way, "same", ways[0]) for way in ways[1:]])
        self.assertEqual(tree, tree_up(image_of((2, 4), tree)))
        check_raises(self, NoRoom("pages"), image_of, (2, 3), tree)
        self.assertEqual(tree[:4], tree_up(image_of((2, 0), tree[:4])))

    def test_drive_of(self):
        drive = drive_of(SIZE, TREE, DEEDS)
        other = Drive(image_of(SIZE, TREE))
        for deed in DEEDS:
            other.do(deed)
        self.assertIsInstance(drive, Drive)
        for name in ("image", "tree", "deeds", "writes", "period", "stamp", "cards", "room"):
            self.assertEqual(getattr(other, name), getattr(drive, name))
        self.assertEqual((end(TREE, DEEDS), DEEDS), (drive.tree, drive.deeds))
        self.assertEqual((TREE, ()), (drive_of(SIZE, TREE, ()).tree, drive_of(SIZE, TREE, ()).writes))

    def test_room_for_deeds(self):
        self.assertEqual((0, 0), drive_of((3, 1), (), (("file", "/a", "x"), ("folder", "/b"))).room)
        check_raises(self, NoRoom("things"), drive_of, (2, 1), (), (("file", "/a", "x"), ("folder", "/b")))
        check_raises(self, NoRoom("pages"), drive_of, (3, 0), (), (("file", "/a", "x"), ("folder", "/b")))
        # What was dropped is not free before the next sync.
        row = (("folder", "/a"), ("drop", "/a"), ("folder", "/a"))
        self.assertEqual((0, 0), drive_of((3, 0), (), row).room)
        check_raises(self, NoRoom("things"), drive_of, (2, 0), (), row)
        check_raises(self, NoRoom("things"), drive_of, (24, 200), (), SIXTY)


class Keepings(unittest.TestCase):
    def check_past(self, tree, deeds, drive, keeping):
        """Whether the tree of a past comes up by a keeping; returns this past."""
        image = kept(drive.image, drive.writes, keeping)
        past = past_by(SIZE, tree, deeds, keeping)
        self.assertIs(True, is_past(tree, deeds, past))
        self.assertEqual((), faults(image))
        self.assertEqual(tree_of(tree, deeds, past), tree_up(image))
        return past

    def check_keepings_for(self, tree, deeds, drive):
        for past in pasts(tree, deeds):
            keeping = keeping_for(SIZE, tree, deeds, past)
            self.assertEqual(past, self.check_past(tree, deeds, drive, keeping))

    def test_every_keeping_of_small_rows(self):
        for tree, deeds in ROWS:
            with self.subTest(tree=tree, deeds=deeds):
                drive = drive_of(SIZE, tree, deeds)
                self.check_keepings_for(tree, deeds, drive)
                keepings = product(*[range(-1, many + 1) for many in times_written(drive.writes)])
                found = {self.check_past(tree, deeds, drive, keeping) for keeping in keepings}
                self.assertEqual(pasts(tree, deeds), sorted(found))

    def test_random_rows(self):
        chance = some_chance(23)
        whole = 0
        for _ in range(40):
            tree, deeds = random_row(chance, chance.randrange(4), chance.randrange(5), SHORT)
            drive = drive_of(SIZE, tree, deeds)
            self.check_keepings_for(tree, deeds, drive)
            times = times_written(drive.writes)
            if count_keepings(drive.writes) <= 100:
                whole += 1
                found = {self.check_past(tree, deeds, drive, one) for one in product(*[range(-1, many + 1) for many in times])}
                self.assertEqual(pasts(tree, deeds), sorted(found))
            for _ in range(10):
                keeping = [many if chance.randrange(4) else chance.randrange(-1, many + 1) for many in times]
                self.check_past(tree, deeds, drive, tuple(keeping))
        self.assertGreater(whole, 8)

    def test_keeping_for(self):
        row = (("file", "/f", "x"), ("write", "/f", 1, "y"), ("folder", "/a"), ("cut", "/f", 0))
        drive = drive_of((4, 5), (), row)
        self.assertEqual((5, 7, 10, 11), written_numbers(drive.writes))
        self.assertEqual((3, 1, 1, 1), times_written(drive.writes))
        told = {(): (0, 0, 0, 0), (0,): (1, 0, 1, 0), (0, 1): (2, 0, 1, 1), (0, 1, 2): (2, 1, 1, 1),
                (0, 1, 3): (3, 0, 1, 1), (0, 1, 2, 3): (3, 1, 1, 1), (2,): (0, 1, 0, 0), (0, 2): (1, 1, 1, 0)}
        self.assertEqual(sorted(told), pasts((), row))
        for past, keeping in told.items():
            self.assertEqual(keeping, keeping_for((4, 5), (), row, past))
            self.assertEqual(past, past_by((4, 5), (), row, keeping))

    def test_past_by(self):
        row = (("file", "/f", "x"), ("write", "/f", 1, "y"), ("folder", "/a"), ("cut", "/f", 0))
        # What was put on a page that no card that comes up needs does not tell anything.
        for keeping, past in [((3, 0, -1, -1), (0, 1, 3)), ((2, 1, 0, 1), (0, 1, 2)), ((2, 1, 0, -1), (2,)), ((1, -1, 1, 0), (0,)),
                              ((1, -1, 0, 1), ()), ((-1, -1, -1, -1), ()), ((-1, 1, 1, 1), (2,))]:
            self.assertEqual(past, past_by((4, 5), (), row, keeping))

    def test_a_row_without_deeds(self):
        self.assertEqual((), keeping_for(SIZE, TREE, (), ()))
        self.assertEqual((), past_by(SIZE, TREE, (), ()))
        check_raises(self, BadKeeping(None), past_by, SIZE, TREE, (), (0,))
        check_raises(self, BadPast(), keeping_for, SIZE, TREE, (), (0,))

    def test_wrong_keepings(self):
        row = (("file", "/a", "x"), ("write", "/a", 1, "y"))
        for value in ODD + ["", [0, 0, 0], (), (0, 0), (0,) * 4, {}, 0, "000"]:
            check_raises(self, BadKeeping(None), past_by, (3, 4), (), row, value)
        for keeping, index in [((3, 0, 0), 0), ((-2, None, 0), 0), ((2, 2, 0), 1), ((2, True, 0), 1), ((0, 0, None), 2),
                               ((0, 0, (1,)), 2), ((0, 1, False), 2), ((0, 1, 10 ** 30), 2)]:
            check_raises(self, BadKeeping(index), past_by, (3, 4), (), row, keeping)


class Orders(unittest.TestCase):
    """Which error is raised if several apply."""

    def asks(self):
        return [image_of, lambda size, tree: drive_of(size, tree, None), lambda size, tree: keeping_for(size, tree, None, None),
                lambda size, tree: past_by(size, tree, None, None)]

    def test_sizes_come_first(self):
        for ask in self.asks():
            for size in NO_SIZES:
                check_raises(self, BadSize(), ask, size, None)
                check_raises(self, BadSize(), ask, size, TREE)

    def test_then_trees(self):
        for ask in self.asks():
            for tree in NOTHING:
                check_raises(self, BadTree(0 if isinstance(tree, tuple) else None), ask, (1, 0), tree)
            check_raises(self, BadTree(1), ask, (1, 0), (TREE[0], TREE[0]))

    def test_then_deeds(self):
        for ask in (drive_of, lambda *row: keeping_for(*row, None), lambda *row: past_by(*row, None)):
            for deeds in ODD + [list(DEEDS), SIXTY * 2]:
                check_raises(self, BadDeeds(None), ask, (1, 0), TREE, deeds)
            check_raises(self, BadDeeds(4), ask, (1, 0), TREE, DEEDS + (("drop", "/b"),))
            check_raises(self, BadDeeds(1), ask, (1, 0), TREE, DEEDS[:1] + (None,))

    def test_then_pasts(self):
        for past in ODD + ["", [], [0], (4,), (1, 0), (1,), (3,), (0, 0), (False,), (None,), ("0",), deep(5000)]:
            check_raises(self, BadPast(), keeping_for, (1, 0), TREE, DEEDS, past)
        check_raises(self, NoRoom("things"), keeping_for, (1, 0), TREE, DEEDS, (0,))

    def test_keepings_behind_room(self):
        check_raises(self, NoRoom("things"), past_by, (1, 0), TREE, DEEDS, None)
        check_raises(self, NoRoom("pages"), past_by, (5, 3), TREE, DEEDS, None)
        # Room for the tree, but not for the deeds.
        check_raises(self, NoRoom("pages"), past_by, (5, 4), TREE, DEEDS, None)
        check_raises(self, NoRoom("things"), past_by, (5, 9), TREE, DEEDS, None)
        check_raises(self, BadKeeping(None), past_by, (6, 9), TREE, DEEDS, None)

    def test_arguments_stay_as_they_were(self):
        told = (SIZE, copy.deepcopy(TREE), copy.deepcopy(DEEDS))
        image = image_of(*told[:2])
        other = copy.deepcopy(image)
        keeping = keeping_for(*told, (0, 1))
        self.assertEqual((0, 1), past_by(*told, keeping))
        joined(image, image)
        copied_to(image, SIZE)
        self.assertEqual(((SIZE, TREE, DEEDS), other), (told, image))


def head(period, total=0):
    return written_page(("head", period, 2, 3, total))


def card(stamp, period=1):
    return written_page(("card", 1, stamp, period, 7, (), (1,) * 49))


def tail(stamp):
    return written_page(("tail", 1, stamp, 0, (1,) * 54))


def data(stamp, text="x"):
    return written_page(("data", 1, stamp, 0, text))


SPOILED = data(3)[:63] + (9,)


class Joined(unittest.TestCase):
    def check(self, page, other, is_other):
        """Whether a page of two images is read, at each place, from the other one."""
        self.assertNotEqual(page, other)
        for place in range(5):
            one = (None,) * place + (page,) + (BLANK,) * (4 - place)
            more = (None,) * place + (other,) + (BLANK,) * (4 - place)
            self.assertEqual(more if is_other else one, joined(one, more))

    def test_pages_that_cannot_be_read(self):
        for page in (None, SPOILED, (7,) * 64, (0,) * 63 + (1,)):
            for other in (BLANK, head(0), card(0), tail(0), data(0)):
                self.check(page, other, True)
                self.check(other, page, False)
        # If neither can be told, it is that of the other one.
        self.check(None, SPOILED, True)
        self.check(SPOILED, None, True)

    def test_blank_pages(self):
        for other in (head(0), card(0), tail(0), data(0)):
            self.check(BLANK, other, True)
            self.check(other, BLANK, False)
        self.check(BLANK, None, False)
        self.check(BLANK, SPOILED, False)

    def test_heads(self):
        self.check(head(4), head(5), True)
        self.check(head(5), head(4), False)
        self.check(head(4, 1), head(4, 2), False)
        for other in (card(9), tail(9), data(9)):
            self.check(head(1), other, False)
            self.check(other, head(99), False)

    def test_stamps(self):
        for make in (card, tail, data):
            for made in (card, tail, data):
                self.check(make(3), made(4), True)
                self.check(make(4), made(3), False)
                if make != made:
                    self.check(make(3), made(3), False)
        # For cards it is the stamps, too, and not the periods.
        self.check(card(3, 9), card(4, 1), True)
        self.check(card(4, 1), card(3, 9), False)
        self.check(card(3, 1), card(3, 2), False)
        self.check(data(3, "x"), data(3, "y"), False)

    def test_one_image(self):
        image = image_of(SIZE, TREE)
        self.assertEqual(image, joined(image, image))
        self.assertEqual(image, joined(image, (None,) * len(image)))
        self.assertEqual(image, joined((None,) * len(image), image))
        self.assertEqual(image, joined((BLANK,) * len(image), image))
        self.assertEqual(image, joined(new_image(SIZE), image))

    def test_images_written_alike(self):
        chance = some_chance(4)
        drive = drive_of(SIZE, TREE, DEEDS)
        times = times_written(drive.writes)
        whole = put_all(drive.image, drive.writes)
        for _ in range(30):
            keepings = [[chance.randrange(-1, many + 1) for many in times] for _ in range(2)]
            for spot, many in enumerate(times):
                keepings[chance.randrange(2)][spot] = many
            one, other = [kept(drive.image, drive.writes, tuple(keeping)) for keeping in keepings]
            # Each page is as it should be on one of the two.
            self.assertEqual(whole, joined(one, other))
            self.assertEqual(end(TREE, DEEDS), tree_up(joined(other, one)))

    def test_unlike_images(self):
        for one, other in [(4, 5), (5, 4), (4, 250), (250, 249)]:
            check_raises(self, UnlikeImages(), joined, (None,) * one, (BLANK,) * other)
        self.assertEqual((BLANK,) * 250, joined((None,) * 250, (BLANK,) * 250))

    def test_wrong_images(self):
        image = (BLANK,) * 4
        for value in NOTHING + ["", (), (BLANK,) * 3, (BLANK,) * 251, [BLANK] * 4, (BLANK, BLANK, BLANK, (0,) * 63), deep(5000)]:
            check_raises(self, BadImage(), joined, value, image)
            check_raises(self, BadImage(), joined, image, value)
            check_raises(self, BadImage(), joined, value, None)


class Copied(unittest.TestCase):
    def test_other_sizes(self):
        drive = drive_of(SIZE, TREE, DEEDS)
        image = kept(drive.image, drive.writes, keeping_for(SIZE, TREE, DEEDS, (0, 2)))
        tree = tree_of(TREE, DEEDS, (0, 2))
        for size in [(5, 4), (5, 5), (24, 200), SIZE]:
            self.assertEqual(image_of(size, tree), copied_to(image, size))
            self.assertEqual(tree, tree_up(copied_to(image, size)))
        check_raises(self, NoRoom("things"), copied_to, image, (4, 200))
        check_raises(self, NoRoom("pages"), copied_to, image, (5, 3))

    def test_a_new_image(self):
        self.assertEqual(image_of((2, 1), ()), copied_to(new_image((9, 9)), (2, 1)))

    def test_wrong_images(self):
        for value in NOTHING + ["", (), [BLANK] * 4, list(new_image((1, 0)))]:
            check_raises(self, BadImage(), copied_to, value, None)
        check_raises(self, NoHead(), copied_to, (BLANK,) * 9, None)
        check_raises(self, NoHead(), copied_to, new_image((2, 3)) + (BLANK,), (2, 3))
        image = new_image((2, 3))
        check_raises(self, Unsound((("safe", 1),)), copied_to, put(image, 4, None), (1, 0))
        check_raises(self, Unsound((("sum",),)), copied_to, headed(image, 2, 3, 7, 0), None)
        wrong = put_card(base(), 1, 0, file(0, 1, ((0, "f"),), 1, ((14, 1),)))
        self.assertEqual((("part", 1),), faults(wrong))
        check_raises(self, Unsound((("part", 1),)), copied_to, wrong, (1, 0))
        self.assertEqual((("/f", "file", "y"),), tree_up(put_told(wrong, 14, "data", 1, 1, 0, "y")))

    def test_wrong_sizes(self):
        for size in NO_SIZES:
            check_raises(self, BadSize(), copied_to, image_of(SIZE, TREE), size)


class Helpers(unittest.TestCase):
    def test_pages_are_told(self):
        self.assertEqual(["head", "card", "tail", "data", "bad"], [
            told_page(page)[0] for page in (head(1), card(1), tail(1), data(1), SPOILED)])
        self.assertEqual(5, len(cards_up(image_of((5, 4), TREE))))


if __name__ == "__main__":
    unittest.main()
