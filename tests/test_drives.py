"""Points 25 to 29: drives, what their deeds write, look at and need, and how much room there is."""

import copy
import unittest
from itertools import product

from keptanyhow.cards import card_pages, tails_needed
from keptanyhow.deeds import done, done_all
from keptanyhow.drives import Drive
from keptanyhow.errors import (
    BadDeed, BadImage, BadKeeping, BadWay, Inside, IsThere, KeepError, NoHead, NoRoom, NotFile, NotFolder, NotThere, Unsound,
)
from keptanyhow.images import new_image, put_all, times_written, written_numbers
from keptanyhow.pages import written_page
from keptanyhow.scans import cards_up, faults, greatest_stamp, head_of, safe_sides, settled, tree_up
from tests.making import BLANK, TOP, base, file, folder, none, put, put_card, put_head, put_told
from tests.nested import WAYS, random_let_by, some_chance
from tests.values import ODD, ODD_TUPLES, deep


def told(drive):
    """All that a drive tells."""
    return (drive.image, drive.tree, drive.deeds, drive.writes, drive.period, drive.stamp, drive.cards, drive.room)


def begun(size, *deeds):
    """A drive on a new image on which deeds were done."""
    drive = Drive(new_image(size))
    for deed in deeds:
        drive.do(deed)
    return drive


def data(thing, stamp, index, contents):
    return written_page(("data", thing, stamp, index, contents))


def bundle(*deeds):
    return ("bundle", deeds)


class Beginning(unittest.TestCase):
    def test_a_new_image(self):
        drive = Drive(new_image((3, 4)))
        cards = (folder(0, 0), none(0, 0), none(0, 0))
        self.assertEqual((settled(new_image((3, 4))), (), (), (), 2, 0, cards, (2, 4)), told(drive))
        self.assertEqual((0, 0), Drive(new_image((1, 0))).room)
        self.assertEqual((23, 200), Drive(new_image((24, 200))).room)

    def test_an_image_with_open_cards(self):
        image = put_card(base(), 1, 1, folder(9, 6, (0, "a")))
        image = put_card(image, 2, 1, file(8, 6, ((0, "b"),), 1, ((14, 8),), ((1, 9),)))
        image = put_card(image, 3, 1, folder(30, 6, (0, "c"), needs=((4, 1),)))
        image = put_told(put_told(image, 14, "data", 2, 8, 0, "x"), 16, "data", 5, 40, 0, "old")
        drive = Drive(image)
        self.assertEqual(settled(image), drive.image)
        self.assertEqual((("/a", "folder"), ("/b", "file", "x")), drive.tree)
        self.assertEqual(((), (), 7, 40), (drive.deeds, drive.writes, drive.period, drive.stamp))
        self.assertEqual(cards_up(image), drive.cards)
        self.assertEqual((3, 7), drive.room)

    def test_stamps_of_pages_that_are_blanked(self):
        image = put_card(base(), 3, 1, folder(30, 6, (0, "c"), needs=((4, 1),)))
        self.assertEqual(0, greatest_stamp(settled(image)))
        self.assertEqual(30, Drive(image).stamp)

    def test_tails_are_not_free(self):
        card = file(1, 1, tuple([(0, "abcdefg" + letter) for letter in "abcdefgh"]))
        image = put_card(base(), 2, 0, card, (15,))
        drive = Drive(put_head(image, 0, 5, 6, 8, 1))
        self.assertEqual((4, 7), drive.room)
        drive.do(("file", "/f", "x" * 100))
        self.assertEqual(((14, 2), (16, 2)), drive.cards[1][5])

    def test_wrong_images(self):
        for value in ODD + ODD_TUPLES + [(), "", (BLANK,) * 3, [BLANK] * 4, list(new_image((1, 0))), deep(5000)]:
            with self.assertRaises(BadImage):
                Drive(value)
        with self.assertRaises(NoHead):
            Drive((BLANK,) * 4)
        with self.assertRaises(Unsound) as caught:
            Drive(put_card(base(), 1, 0, none(3, 1)))
        self.assertEqual({"faults": (("sum",),)}, caught.exception.__dict__)
        with self.assertRaises(Unsound):
            Drive(put(base(period=TOP), 2, None))

    def test_drives_are_values_of_other_kinds(self):
        drive = Drive(new_image((1, 0)))
        for ask in (Drive, drive.do, drive.cut, drive.unsynced):
            with self.assertRaises(KeepError):
                ask(drive)

    def test_periods(self):
        for period in (TOP - 1, TOP):
            with self.assertRaises(NoRoom) as caught:
                Drive(base(period=period))
            self.assertEqual({"what": "periods"}, caught.exception.__dict__)
        drive = Drive(base(period=TOP - 2))
        self.assertEqual(TOP, drive.period)
        drive.do(("file", "/f", "x"))
        self.assertEqual(TOP, drive.cards[1][1])
        before = told(drive)
        for call in (drive.sync, lambda: drive.cut((1, 1)), lambda: drive.cut((0, 0))):
            with self.assertRaises(NoRoom) as caught:
                call()
            self.assertEqual({"what": "periods"}, caught.exception.__dict__)
            self.assertEqual(before, told(drive))
        drive = Drive(base(period=TOP - 3))
        drive.sync()
        self.assertEqual((TOP, TOP - 1), (drive.period, head_of(drive.image)[1]))


class Written(unittest.TestCase):
    def check(self, drive, deed, cards, writes):
        """Whether a deed gives things these cards, and makes these writes."""
        before = drive.cards
        made = drive.writes
        drive.do(deed)
        self.assertEqual(cards, {thing: card for thing, card in enumerate(drive.cards) if card != before[thing]})
        self.assertEqual(made, drive.writes[:len(made)])
        self.assertEqual(tuple(writes), drive.writes[len(made):])

    def test_making(self):
        drive = begun((4, 4))
        one = folder(1, 2, (0, "a"))
        self.check(drive, ("folder", "/a"), {1: one}, [(5, card_pages(1, one, ())[0])])
        two = file(2, 2, ((1, "f"),), 53, ((10, 2), (11, 2)), ((1, 1),))
        self.check(drive, ("file", "/a/f", "x" * 50 + "abc"), {2: two}, [
            (10, data(2, 2, 0, "x" * 50)), (11, data(2, 2, 1, "abc")), (7, card_pages(2, two, ())[0])])
        three = file(3, 2, ((0, "e"),))
        self.check(drive, ("file", "/e", ""), {3: three}, [(9, card_pages(3, three, ())[0])])
        self.assertEqual((0, 2), drive.room)
        self.assertEqual(3, drive.stamp)
        self.assertEqual((("folder", "/a"), ("file", "/a/f", "x" * 50 + "abc"), ("file", "/e", "")), drive.deeds)

    def test_pieces_that_stay(self):
        drive = begun((3, 12), ("file", "/f", "a" * 50 + "b" * 50 + "c" * 20))
        parts = ((8, 1), (9, 1), (10, 1))
        drive.sync()
        new = file(2, 3, ((0, "f"),), 120, (parts[0], (11, 2), parts[2]))
        self.check(drive, ("write", "/f", 60, "X"), {1: new}, [
            (11, data(1, 2, 1, "b" * 10 + "X" + "b" * 39)), (4, card_pages(1, new, ())[0])])
        new = file(3, 3, ((0, "f"),), 100, (parts[0], (11, 2)))
        self.check(drive, ("cut", "/f", 100), {1: new}, [(4, card_pages(1, new, ())[0])])
        new = file(4, 3, ((0, "f"),), 99, (parts[0], (12, 4)))
        self.check(drive, ("cut", "/f", 99), {1: new}, [
            (12, data(1, 4, 1, "b" * 10 + "X" + "b" * 38)), (4, card_pages(1, new, ())[0])])
        new = file(5, 3, ((0, "f"),), 99, (parts[0], (12, 4)))
        self.check(drive, ("write", "/f", 0, "aa"), {1: new}, [(4, card_pages(1, new, ())[0])])
        new = file(6, 3, ((0, "f"),), 99, (parts[0], (12, 4)))
        self.check(drive, ("write", "/f", 99, ""), {1: new}, [(4, card_pages(1, new, ())[0])])
        self.assertEqual((1, 7), drive.room)

    def test_a_piece_at_another_index(self):
        drive = begun((3, 12), ("file", "/f", "a" * 50 + "b" * 50))
        drive.do(("write", "/f", 0, "b" * 50 + "a" * 50))
        self.assertEqual(((10, 2), (11, 2)), drive.cards[1][5])
        drive.do(bundle(("cut", "/f", 0), ("write", "/f", 0, "b" * 50 + "c" * 50)))
        self.assertEqual(((10, 2), (12, 3)), drive.cards[1][5])

    def test_pieces_of_a_dropped_file_are_not_kept(self):
        drive = begun((4, 12), ("file", "/f", "a" * 50))
        drive.do(bundle(("drop", "/f"), ("file", "/f", "a" * 50)))
        self.assertEqual((none(2, 2, ((2, 2),)), file(2, 2, ((0, "f"),), 50, ((11, 2),), ((1, 2),))), drive.cards[1:3])

    def test_tails(self):
        drive = begun((3, 60), ("file", "/f", "x"))
        drive.sync()
        text = "".join([letter * 50 for letter in "abcdefghijklmnopqrst"])
        parts = tuple([(number, 2) for number in range(9, 29)])
        new = file(2, 3, ((0, "f"),), 1000, parts)
        self.assertEqual(1, tails_needed(new))
        pages = card_pages(1, new, (29,))
        self.check(drive, ("write", "/f", 0, text), {1: new}, [
            (9 + index, data(1, 2, index, text[50 * index:50 * index + 50])) for index in range(20)
        ] + [(29, pages[1]), (4, pages[0])])
        self.assertEqual((1, 60 - 22), drive.room)
        new = file(3, 3, ((0, "f"),), 1000, ((30, 3),) + parts[1:])
        pages = card_pages(1, new, (31,))
        self.check(drive, ("write", "/f", 0, "X"), {1: new}, [
            (30, data(1, 3, 0, "X" + "a" * 49)), (31, pages[1]), (4, pages[0])])
        drive.sync()
        # Free again: the first part, which was there at the sync before, and all that was overwritten since.
        self.assertEqual((1, 60 - 21), drive.room)
        drive.do(("file", "/g", "y" * 130))
        self.assertEqual(((8, 4), (9, 4), (29, 4)), drive.cards[2][5])

    def test_sides(self):
        drive = begun((3, 9), ("file", "/f", ""))
        self.assertEqual([5], [number for number, _ in drive.writes])
        drive.do(("write", "/f", 0, ""))
        self.assertEqual([5, 5], [number for number, _ in drive.writes])
        drive.sync()
        drive.do(("write", "/f", 0, ""))
        self.assertEqual([4], [number for number, _ in drive.writes])
        drive.cut((0,))
        drive.do(("write", "/f", 0, ""))
        self.assertEqual([4], [number for number, _ in drive.writes])
        drive.cut((1,))
        drive.do(("write", "/f", 0, ""))
        self.assertEqual([5], [number for number, _ in drive.writes])

    def test_linking_moving_and_dropping(self):
        drive = begun((6, 12), ("file", "/f", "x"), ("folder", "/a"), ("file", "/g", "y"))
        drive.sync()
        part = ((14, 1),)
        new = file(4, 3, ((0, "f"), (2, "l")), 1, part)
        self.check(drive, ("link", "/f", "/a/l"), {1: new}, [(4, card_pages(1, new, ())[0])])
        new = file(5, 3, ((2, "l"),), 1, part)
        self.check(drive, ("drop", "/f"), {1: new}, [(4, card_pages(1, new, ())[0])])
        one = file(6, 3, ((0, "g"),), 1, part, ((3, 6),))
        three = none(6, 3, ((1, 6),))
        self.check(drive, ("move", "/a/l", "/g"), {1: one, 3: three}, [
            (4, card_pages(1, one, ())[0]), (8, card_pages(3, three, ())[0])])
        # A folder looks at what left places in it when it is dropped.
        new = none(7, 3, ((1, 6), (3, 6)))
        self.check(drive, ("drop", "/a"), {2: new}, [(6, card_pages(2, new, ())[0])])

    def test_a_replaced_file_that_has_another_way(self):
        drive = begun((4, 9), ("file", "/f", "x"), ("file", "/g", "y"), ("link", "/g", "/h"))
        drive.sync()
        drive.do(("move", "/f", "/g"))
        self.assertEqual(file(4, 3, ((0, "g"),), 1, ((10, 1),), ((2, 4),)), drive.cards[1])
        self.assertEqual(file(4, 3, ((0, "h"),), 1, ((11, 2),), ((1, 4),)), drive.cards[2])

    def test_a_moved_folder(self):
        drive = begun((6, 9), ("folder", "/a"), ("folder", "/a/b"), ("file", "/a/b/f", "x"), ("folder", "/c"))
        drive.sync()
        new = folder(5, 3, (4, "z"))
        self.check(drive, ("move", "/a/b", "/c/z"), {2: new}, [(6, card_pages(2, new, ())[0])])
        self.assertEqual((("/a", "folder"), ("/c", "folder"), ("/c/z", "folder"), ("/c/z/f", "file", "x")), drive.tree)

    def test_a_bundle_that_makes_moves_replaces_and_drops(self):
        drive = begun((8, 12), ("file", "/f", "x"), ("file", "/g", "y"), ("folder", "/a"))
        drive.sync()
        deed = bundle(("folder", "/b"), ("move", "/f", "/b/f"), ("move", "/g", "/b/f"), ("drop", "/a"), ("file", "/a", "new"),
                      ("write", "/b/f", 1, "z"))
        every = ((1, 4), (2, 4), (3, 4), (4, 4), (5, 4))
        cards = {
            1: none(4, 3, every[1:]),
            2: file(4, 3, ((4, "f"),), 2, ((20, 4),), every[:1] + every[2:]),
            3: none(4, 3, every[:2] + every[3:]),
            4: folder(4, 3, (0, "b"), needs=every[:3] + every[4:]),
            5: file(4, 3, ((0, "a"),), 3, ((21, 4),), every[:4]),
        }
        page = {thing: card_pages(thing, card, ())[0] for thing, card in cards.items()}
        self.check(drive, deed, cards, [
            (4, page[1]), (20, data(2, 4, 0, "yz")), (6, page[2]), (8, page[3]), (11, page[4]), (21, data(5, 4, 0, "new")),
            (13, page[5])])
        self.assertEqual((deed,), drive.deeds)
        self.assertEqual((2, 8), drive.room)

    def test_made_and_dropped_in_a_bundle(self):
        drive = begun((4, 3))
        drive.do(bundle(("file", "/f", "x" * 200), ("drop", "/f"), ("folder", "/f")))
        self.assertEqual((none(1, 2, ((2, 1),)), folder(1, 2, (0, "f"), needs=((1, 1),))), drive.cards[1:3])
        self.assertEqual((1, 3), drive.room)
        drive.do(("drop", "/f"))
        drive.sync()
        self.assertEqual((3, 3), drive.room)

    def test_written_things_are_not_free(self):
        drive = begun((3, 3), ("folder", "/a"), ("drop", "/a"))
        self.assertEqual((1, 3), drive.room)
        drive.do(("folder", "/b"))
        self.assertEqual("folder", drive.cards[2][2])
        drive.sync()
        self.assertEqual((1, 3), drive.room)
        drive.do(("folder", "/c"))
        self.assertEqual((0, "c"), drive.cards[1][3][0])

    def test_more_writes_than_other_writes_may_be(self):
        drive = begun((2, 2), ("folder", "/a"))
        for _ in range(1005):
            drive.do(("move", "/a", "/b"))
            drive.do(("move", "/b", "/a"))
        self.assertEqual(2011, len(drive.writes))
        drive.cut((2010,))
        self.assertEqual((("/b", "folder"),), drive.tree)


class Needs(unittest.TestCase):
    def check(self, drive, deed, needs):
        """Whether a deed writes just these things, with these needs."""
        stamp = drive.stamp + 1
        drive.do(deed)
        self.assertEqual(needs, {thing: card[6] for thing, card in enumerate(drive.cards) if card[0] == stamp})

    def test_one_after_another(self):
        drive = begun((8, 20))
        self.check(drive, ("folder", "/a"), {1: ()})
        self.check(drive, ("file", "/a/f", "x"), {2: ((1, 1),)})
        self.check(drive, ("write", "/a/f", 0, "y"), {2: ((1, 1),)})
        self.check(drive, ("move", "/a/f", "/g"), {2: ((1, 1),)})
        # What left the place is needed as it was then, whatever comes of it.
        self.check(drive, ("write", "/g", 0, "z"), {2: ((1, 1),)})
        self.check(drive, ("file", "/a/f", "y"), {3: ((1, 1), (2, 4))})
        self.check(drive, ("drop", "/a/f"), {3: ((1, 1), (2, 4))})
        self.check(drive, ("drop", "/a"), {1: ((2, 4), (3, 7))})
        self.check(drive, ("folder", "/a"), {4: ((1, 8), (2, 4), (3, 7))})
        self.check(drive, bundle(("folder", "/b"), ("move", "/g", "/b/g"), ("file", "/g", "z")), {
            2: ((1, 1), (5, 10), (6, 10)), 5: ((1, 1), (2, 10), (6, 10)), 6: ((1, 1), (2, 10), (5, 10))})
        self.check(drive, ("folder", "/z"), {7: ()})

    def test_folders_on_the_way(self):
        drive = begun((8, 20), ("folder", "/a"), ("folder", "/b"), ("folder", "/a/c"), ("file", "/f", ""))
        self.check(drive, ("link", "/f", "/a/c/f"), {4: ((1, 1), (3, 3))})
        drive.sync()
        self.check(drive, ("move", "/a", "/x"), {1: ()})
        self.check(drive, ("write", "/x/c/f", 0, "t"), {4: ((1, 6),)})
        self.check(drive, ("move", "/x/c", "/b/c"), {3: ((1, 6),)})
        self.check(drive, ("write", "/f", 0, "u"), {4: ((1, 6),)})
        self.check(drive, ("cut", "/b/c/f", 0), {4: ((1, 6), (3, 8))})

    def test_things_that_left_before_the_last_sync(self):
        for synced in (False, True):
            drive = begun((8, 20), ("folder", "/a"), ("file", "/a/f", ""), ("move", "/a/f", "/g"))
            if synced:
                drive.sync()
            self.check(drive, ("file", "/a/f", ""), {3: () if synced else ((1, 1), (2, 3))})
            self.check(drive, ("move", "/a/f", "/h"), {3: () if synced else ((1, 1), (2, 3))})
            self.check(drive, ("drop", "/a"), {1: ((3, 5),) if synced else ((2, 3), (3, 5))})

    def test_a_thing_that_had_stood_there_at_the_last_sync(self):
        drive = begun((8, 20), ("file", "/f", "x"), ("file", "/g", "y"))
        drive.sync()
        self.check(drive, ("move", "/f", "/h"), {1: ()})
        self.check(drive, ("link", "/g", "/f"), {2: ((1, 3),)})
        self.check(drive, ("drop", "/f"), {2: ((1, 3),)})
        # Only what left last is looked at: it needs what had left before.
        self.check(drive, ("folder", "/f"), {3: ((1, 3), (2, 5))})

    def test_the_last_that_left(self):
        drive = begun((8, 20), ("file", "/f", "x"), ("file", "/g", "y"))
        drive.sync()
        self.check(drive, ("drop", "/f"), {1: ()})
        self.check(drive, ("move", "/g", "/f"), {2: ((1, 3),)})
        self.check(drive, ("move", "/f", "/k"), {2: ((1, 3),)})
        self.check(drive, ("move", "/k", "/f"), {2: ((1, 3),)})
        self.check(drive, ("move", "/f", "/m"), {2: ((1, 3),)})
        self.check(drive, ("folder", "/f"), {3: ((1, 3), (2, 7))})
        self.check(drive, ("folder", "/k"), {4: ((1, 3), (2, 6))})

    def test_replaced_files_left(self):
        drive = begun((8, 20), ("file", "/f", "x"), ("file", "/g", "y"))
        drive.sync()
        self.check(drive, ("move", "/f", "/g"), {1: ((2, 3),), 2: ((1, 3),)})
        self.check(drive, ("drop", "/g"), {1: ((2, 3),)})
        self.check(drive, ("folder", "/g"), {3: ((1, 4), (2, 3))})
        self.check(drive, ("folder", "/f"), {4: ((1, 3), (2, 3))})

    def test_what_leaves_in_the_same_bundle(self):
        drive = begun((9, 20), ("file", "/f", "x"), ("file", "/g", "y"))
        drive.sync()
        self.check(drive, ("drop", "/f"), {1: ()})
        self.check(drive, bundle(("move", "/g", "/f"), ("move", "/f", "/h"), ("folder", "/f")), {
            2: ((1, 3), (3, 4)), 3: ((1, 3), (2, 4))})
        drive.sync()
        self.check(drive, bundle(("drop", "/h"), ("drop", "/f"), ("folder", "/q"), ("drop", "/q")), {
            2: ((1, 5), (3, 5)), 1: ((2, 5), (3, 5)), 3: ((1, 5), (2, 5))})

    def test_a_dropped_folder_looks_only_at_its_own_places(self):
        drive = begun((9, 20), ("folder", "/a"), ("folder", "/b"), ("file", "/a/f", ""), ("file", "/b/f", ""))
        drive.sync()
        for way in ("/a/f", "/b/f"):
            drive.do(("drop", way))
        self.check(drive, ("drop", "/a"), {1: ((3, 5),)})
        self.check(drive, ("drop", "/b"), {2: ((4, 6),)})

    def test_all_that_left_a_dropped_folder(self):
        drive = begun((9, 20), ("folder", "/a"), ("file", "/a/f", ""), ("file", "/g", ""))
        drive.sync()
        self.check(drive, ("move", "/a/f", "/h"), {2: ()})
        self.check(drive, ("move", "/g", "/a/g"), {3: ()})
        self.check(drive, ("move", "/a/g", "/g"), {3: ()})
        self.check(drive, ("write", "/g", 0, "x"), {3: ()})
        self.check(drive, ("drop", "/a"), {1: ((2, 4), (3, 6))})

    def test_the_greatest_of_several_stamps(self):
        drive = begun((9, 20), ("folder", "/a"), ("file", "/f", ""))
        drive.sync()
        self.check(drive, ("link", "/f", "/a/f"), {2: ()})
        self.check(drive, ("drop", "/a/f"), {2: ()})
        self.check(drive, ("write", "/f", 0, "x"), {2: ()})
        self.check(drive, bundle(("link", "/f", "/a/f"), ("folder", "/a/b")), {2: ((3, 6),), 3: ((2, 6),)})
        self.check(drive, ("move", "/a/b", "/b"), {3: ((2, 6),)})
        self.check(drive, ("write", "/f", 0, "y"), {2: ((3, 6),)})
        self.check(drive, ("move", "/f", "/b/f"), {2: ((3, 7),)})

    def test_synced_things_are_not_needed(self):
        drive = begun((9, 20), ("folder", "/a"), ("folder", "/a/b"), ("file", "/a/b/f", "x"))
        drive.sync()
        for deed, needs in [(("write", "/a/b/f", 0, "y"), {3: ()}), (("folder", "/a/c"), {4: ()}), (("drop", "/a/c"), {4: ()})]:
            self.check(drive, deed, needs)


class Room(unittest.TestCase):
    def check_refused(self, drive, deed, error, what=None):
        before = told(drive)
        with self.assertRaises(error) as caught:
            drive.do(deed)
        self.assertIs(error, caught.exception.__class__)
        self.assertEqual({} if what is None else {"what": what}, caught.exception.__dict__)
        self.assertEqual(before, told(drive))

    def test_things(self):
        drive = begun((3, 9), ("folder", "/a"))
        self.check_refused(drive, bundle(("folder", "/b"), ("folder", "/c")), NoRoom, "things")
        self.check_refused(drive, bundle(("folder", "/b"), ("drop", "/b"), ("folder", "/b")), NoRoom, "things")
        drive.do(("folder", "/b"))
        for deed in (("folder", "/c"), ("file", "/c", ""), bundle(("drop", "/b"), ("folder", "/b"))):
            self.check_refused(drive, deed, NoRoom, "things")
        drive.do(("move", "/b", "/c"))
        self.check_refused(begun((1, 9)), ("folder", "/a"), NoRoom, "things")

    def test_pages(self):
        drive = begun((4, 4))
        self.check_refused(drive, ("file", "/f", "x" * 201), NoRoom, "pages")
        drive.do(("file", "/f", "x" * 150))
        self.check_refused(drive, ("file", "/g", "x" * 51), NoRoom, "pages")
        self.check_refused(drive, ("write", "/f", 149, "yy"), NoRoom, "pages")
        drive.do(("file", "/g", "x" * 50))
        self.check_refused(drive, ("write", "/g", 0, "y"), NoRoom, "pages")
        drive.do(("write", "/g", 0, "x"))
        drive.do(("drop", "/f"))
        self.check_refused(drive, ("file", "/h", "x"), NoRoom, "pages")
        drive.do(("file", "/h", ""))
        drive.sync()
        self.assertEqual((1, 3), drive.room)
        drive.do(("write", "/h", 0, "x" * 150))
        self.check_refused(begun((4, 0)), ("file", "/f", "x"), NoRoom, "pages")

    def test_pages_for_tails(self):
        text = "".join([letter * 50 for letter in "abcdefghijk"])
        # Eleven parts: with a place of four bytes there is no room for them without a tail.
        for pages, what in [(11, "pages"), (12, None)]:
            drive = begun((2, pages))
            if what is None:
                drive.do(("file", "/abcd", text))
                self.assertEqual((0, 0), drive.room)
                self.check_refused(drive, ("link", "/abcd", "/b"), NoRoom, "pages")
            else:
                self.check_refused(drive, ("file", "/abcd", text), NoRoom, what)

    def stamped(self, things, pages, stamp=TOP):
        """A drive whose last stamp is a great one."""
        image = new_image((things, pages))
        return Drive(put_told(image, len(image) - 1, "data", 0, stamp, 0, "old"))

    def test_stamps(self):
        drive = self.stamped(3, 3, TOP - 1)
        drive.do(("folder", "/a"))
        self.assertEqual((TOP, TOP), (drive.stamp, drive.cards[1][0]))
        for deed in (("folder", "/b"), ("drop", "/a"), ("file", "/f", "x" * 150)):
            self.check_refused(drive, deed, NoRoom, "stamps")
        drive.sync()
        self.check_refused(drive, ("drop", "/a"), NoRoom, "stamps")

    def test_the_order_of_what_is_lacking(self):
        drive = self.stamped(2, 1)
        self.check_refused(drive, bundle(("file", "/f", "x" * 60), ("folder", "/a")), NoRoom, "things")
        self.check_refused(drive, ("file", "/f", "x" * 60), NoRoom, "pages")
        self.check_refused(drive, ("file", "/f", "x" * 50), NoRoom, "stamps")
        self.check_refused(drive, bundle(("file", "/f", "x" * 60), ("folder", "/f")), IsThere)
        self.check_refused(drive, bundle(("file", "/f", "x" * 60), ("folder", "/a"), ("drop", "/z")), NotThere)
        self.check_refused(drive, None, BadDeed)

    def test_refusals(self):
        drive = begun((6, 9), ("folder", "/a"), ("file", "/f", "x"))
        drive.sync()
        drive.do(("folder", "/b"))
        for deed, error in [
            (("folder", "/a"), IsThere), (("drop", "/n"), NotThere), (("move", "/a", "/a/x"), Inside),
            (("file", "/f/x", ""), NotFolder), (("cut", "/a", 0), NotFile),
            (bundle(("folder", "/c"), ("drop", "/c"), ("drop", "/c")), NotThere),
        ]:
            self.check_refused(drive, deed, error)

    def test_no_deeds(self):
        drive = begun((6, 9), ("folder", "/a"))
        for value in ODD + ODD_TUPLES + [(), ("sync",), ["folder", "/b"], ("folder", "/"), bundle(), deep(5000),
                                         bundle(*[("folder", "/b")] * 7), bundle(bundle(("folder", "/b")))]:
            self.check_refused(drive, value, BadDeed)


class Syncing(unittest.TestCase):
    def test_sync(self):
        drive = begun((3, 4), ("file", "/f", "hi"), ("write", "/f", 1, "o"), ("folder", "/a"))
        image, writes, cards = drive.image, drive.writes, drive.cards
        drive.sync()
        head = written_page(("head", 2, 3, 4, 5))
        self.assertEqual(put_all(image, writes + ((0, head),)), drive.image)
        self.assertEqual((0, 2, 5), head_of(drive.image))
        self.assertEqual(((("/a", "folder"), ("/f", "file", "ho")), (), (), 3, 3, cards, (0, 3)), told(drive)[1:])
        self.assertEqual(cards, cards_up(drive.image))
        self.assertEqual((), faults(drive.image))

    def test_sync_without_deeds(self):
        drive = begun((3, 4))
        for turn in range(5):
            before = told(drive)
            self.assertIs(None, drive.sync())
            head = written_page(("head", turn + 2, 3, 4, 0))
            self.assertEqual(put(before[0], turn % 2, head), drive.image)
            self.assertEqual(before[1:4] + (turn + 3,) + before[5:], told(drive)[1:])

    def test_a_head_on_either_page(self):
        for image, number in [(base(), 0), (put_head(base(), 1, 6, 6, 8, 0), 1)]:
            drive = Drive(image)
            self.assertEqual(1 - number, head_of(drive.image)[0])
            before = drive.image
            drive.sync()
            self.assertEqual(put_head(before, number, 7 + number, 6, 8, 0), drive.image)
            drive.sync()
            self.assertEqual(1 - number, head_of(drive.image)[0])

    def test_sums_tell_the_stamps(self):
        drive = begun((6, 9), ("folder", "/a"), ("folder", "/b"))
        drive.sync()
        self.assertEqual(3, head_of(drive.image)[2])
        drive.do(("drop", "/a"))
        drive.sync()
        self.assertEqual(5, head_of(drive.image)[2])

    def test_cut(self):
        drive = begun((3, 4), ("file", "/f", "hi"))
        drive.sync()
        drive.do(("write", "/f", 0, "ho"))
        drive.do(("folder", "/a"))
        image = drive.image
        self.assertEqual((1, 1, 1), times_written(drive.writes))
        for keeping in product((-1, 0, 1), repeat=3):
            again = Drive(image)
            again.do(("write", "/f", 0, "ho"))
            again.do(("folder", "/a"))
            # The card of the file, that of the folder, and the part of the file.
            self.assertEqual((4, 7, 9), written_numbers(again.writes))
            self.assertIs(None, again.cut(keeping))
            folders = (("/a", "folder"),) if keeping[1] == 1 else ()
            contents = "ho" if keeping[0] == keeping[2] == 1 else "hi"
            self.assertEqual(folders + (("/f", "file", contents),), again.tree)
            self.assertEqual(((), (), 5), (again.deeds, again.writes, again.period))
        drive.cut((1, 1, 1))
        self.assertEqual((("/a", "folder"), ("/f", "file", "ho")), drive.tree)
        self.assertEqual(((), (), 4, 3), (drive.deeds, drive.writes, drive.period, drive.stamp))

    def test_cut_is_like_a_new_drive(self):
        chance = some_chance(12)
        for turn in range(150):
            drive = begun((9, 30))
            for _ in range(chance.randrange(4)):
                drive.do(random_let_by(chance, drive.tree, WAYS[:8]))
            drive.sync()
            for _ in range(chance.randrange(5)):
                drive.do(random_let_by(chance, drive.tree, WAYS[:8]))
            image, writes = drive.image, drive.writes
            keeping = tuple([chance.randrange(-1, many + 1) for many in times_written(writes)])
            left = put_all(image, ())
            for number, choice in zip(sorted({number for number, _ in writes}), keeping):
                pages = [page for at, page in writes if at == number]
                left = put(left, number, ([left[number]] + pages + [None])[choice])
            drive.cut(keeping)
            self.assertEqual(told(Drive(left)), told(drive))

    def test_wrong_keepings(self):
        drive = begun((3, 4), ("file", "/f", "hi"))
        before = told(drive)
        for value in ODD + ["", (), (0,), (0, 0, 0), [0, 0], deep(5000)]:
            with self.assertRaises(BadKeeping) as caught:
                drive.cut(value)
            self.assertEqual({"index": None}, caught.exception.__dict__)
        for value, index in [((2, 0), 0), ((0, 2), 1), ((-2, 5), 0), ((True, 0), 0), ((0, False), 1), ((None, None), 0)]:
            with self.assertRaises(BadKeeping) as caught:
                drive.cut(value)
            self.assertEqual({"index": index}, caught.exception.__dict__)
        self.assertEqual(before, told(drive))

    def test_unsynced(self):
        drive = begun((9, 9), ("folder", "/a"), ("file", "/a/f", "x"), ("link", "/a/f", "/g"))
        for way, answer in [("/", False), ("/a", True), ("/a/f", True), ("/g", True)]:
            self.assertIs(answer, drive.unsynced(way))
        drive.sync()
        for way in ("/", "/a", "/a/f", "/g"):
            self.assertIs(False, drive.unsynced(way))
        drive.do(("write", "/g", 0, ""))
        drive.do(("folder", "/a/b"))
        for way, answer in [("/", False), ("/a", False), ("/a/f", True), ("/g", True), ("/a/b", True)]:
            self.assertIs(answer, drive.unsynced(way))
        drive.do(("move", "/a", "/c"))
        self.assertIs(True, drive.unsynced("/c"))
        for way in ("/a", "/a/f", "/n", "/g/x", "/n/x"):
            with self.assertRaises(NotThere):
                drive.unsynced(way)
        for value in ODD + ODD_TUPLES + ["", "a", "/a/", "/A", "//", ("/a",)]:
            with self.assertRaises(BadWay):
                drive.unsynced(value)

    def test_arguments_stay_as_they_were(self):
        drive = begun((3, 4))
        for value in ([["folder", "/a"]], {"a": [1]}, (["a"],)):
            before = copy.deepcopy(value)
            for ask in (drive.do, drive.cut, drive.unsynced, Drive):
                with self.assertRaises(KeepError):
                    ask(value)
            self.assertEqual(before, value)


class Lives(unittest.TestCase):
    def test_what_is_lasting_is_as_it_was(self):
        chance = some_chance(5)
        for turn in range(12):
            drive = begun((12, 60))
            for _ in range(25):
                try:
                    drive.do(random_let_by(chance, drive.tree, WAYS))
                except NoRoom:
                    drive.sync()
                if chance.randrange(6) == 0:
                    drive.sync()
                # With all writes and a head, what comes up is what the drive told.
                number, period, _ = head_of(drive.image)
                behind = put_head(put_all(drive.image, drive.writes), 1 - number, period + 1, 12, 60,
                                  sum([card[0] for card in drive.cards]))
                self.assertEqual((), faults(behind))
                self.assertEqual((drive.tree, drive.cards), (tree_up(behind), cards_up(behind)))
                self.assertEqual(drive.tree, tree_up(put_all(drive.image, drive.writes)))
                self.assertEqual(done_all(tree_up(drive.image), drive.deeds), drive.tree)
                self.assertEqual(drive.period, period + 1)

    def test_deeds_do_what_they_do_on_trees(self):
        chance = some_chance(9)
        drive = begun((24, 200))
        for turn in range(300):
            deed = random_let_by(chance, drive.tree, WAYS)
            behind = done(drive.tree, deed)
            try:
                drive.do(deed)
            except NoRoom:
                drive.sync()
                continue
            self.assertEqual(behind, drive.tree)
        drive.sync()
        self.assertEqual(drive.tree, tree_up(drive.image))
        self.assertNotIn(None, safe_sides(drive.image))


if __name__ == "__main__":
    unittest.main()
