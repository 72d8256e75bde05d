"""Points 43 and 44: lives of a drive, event by event, and the deeds from one tree to another one."""

import copy
import unittest

from keptanyhow.deeds import done, done_all, is_deed, let_by
from keptanyhow.drives import Drive
from keptanyhow.errors import BadEvents, BadSize, BadTree, KeepError
from keptanyhow.images import kept, keeping_by, new_image, put_all
from keptanyhow.lives import counted, deeds_between, live, story
from keptanyhow.needs import is_past, tree_of
from keptanyhow.pages import written_page
from keptanyhow.scans import head_of, settling, tree_up
from tests.nested import WAYS, random_deed, random_let_by, some_chance
from tests.refusing import NOTHING, check_raises
from tests.rowing import SHORT
from tests.values import ODD, deep

SIZE = (6, 20)
MAKE = (("file", "/a", "x"), ("folder", "/b"), ("file", "/b/c", "y"))
NAMES = ("image", "tree", "deeds", "writes", "period", "stamp", "cards", "room")
ASKS = [live, counted, story]


def told(drive):
    """All that a drive tells."""
    return tuple([getattr(drive, name) for name in NAMES])


def head_write(drive):
    """The write of the head by which a sync ends, told by what the drive tells."""
    number, _, _ = head_of(drive.image)
    things, pages = len(drive.cards), len(drive.image) - 2 - 2 * len(drive.cards)
    page = written_page(("head", drive.period, things, pages, sum([card[0] for card in drive.cards])))
    return (1 - number, page)


def drives_behind(size, events):
    """The drives behind each event, in another way: a drive is begun anew for each cut."""
    drive = Drive(new_image(size))
    yield drive
    for event in events:
        if event == ("sync",):
            drive.sync()
        elif is_deed(event):
            try:
                drive.do(event)
            except KeepError:
                pass
        elif event[0] == "cut":
            image = kept(drive.image, drive.writes, keeping_by(drive.writes, event[1]))
            for _ in range(event[2]):
                first = settling(image)[0]
                image = kept(image, first, keeping_by(first, event[1]))
            drive = Drive(image)
        else:
            writes = (head_write(drive),)
            drive = Drive(kept(put_all(drive.image, drive.writes), writes, keeping_by(writes, event[1])))
        yield drive


def random_event(chance, tree):
    turn = chance.randrange(12)
    numbers = tuple([chance.choice([0, 1, 1, 1, 2, 2, 3, 5, 10 ** 20]) for _ in range(chance.choice([1, 3, 7]))])
    if turn == 0:
        return ("sync",)
    if turn == 1:
        return ("cut", numbers, chance.randrange(4))
    if turn == 2:
        return ("cut sync", numbers)
    return random_deed(chance, SHORT) if turn == 3 else random_let_by(chance, tree, SHORT)


def random_events(chance, many):
    """Random events, whose deeds would be let by if no cut lost any, and if there were room."""
    tree, events = (), []
    for _ in range(many):
        event = random_event(chance, tree)
        events.append(event)
        if is_deed(event) and let_by(tree, event):
            tree = done(tree, event)
    return tuple(events)


class Lives(unittest.TestCase):
    def check(self, events, trees, deeds, size=SIZE):
        self.assertEqual(trees, story(size, events))
        self.assertEqual(deeds, counted(size, events))
        self.assertEqual(trees[-1], live(size, events).tree)

    def test_no_events(self):
        for size in [(1, 0), (24, 200), SIZE]:
            self.check((), [()], (), size)
            self.assertEqual(told(Drive(new_image(size))), told(live(size, ())))

    def test_deeds_and_syncs(self):
        a, b, c = ("/a", "file", "x"), ("/b", "folder"), ("/b/c", "file", "y")
        self.check(MAKE[:2] + (("sync",),) + MAKE[2:], [(), (a,), (a, b), (a, b), (a, b, c)], MAKE)
        drive = live(SIZE, MAKE[:2] + (("sync",),) + MAKE[2:])
        self.assertEqual((MAKE[2:], 3, 3), (drive.deeds, drive.period, drive.stamp))
        self.check((("sync",),) * 3, [()] * 4, ())

    def test_cuts(self):
        a, b, c = ("/a", "file", "x"), ("/b", "folder"), ("/b/c", "file", "y")
        for numbers, deeds, tree in [((0,), (), ()), ((1,), (), ()), ((2,), MAKE, (a, b, c)), ((2, 1, 1, 2, 1), MAKE[:1], (a,)),
                                     ((2, 2, 0, 2, 2), MAKE[:2], (a, b)), ((1, 2, 2, 2, 2), MAKE[1:], (b, c)),
                                     ((2, 1, 2, 2, 2), MAKE[:1], (a,)), ((5, 3 * 10 ** 30 + 2), MAKE, (a, b, c))]:
            for again in range(4):
                self.check(MAKE + (("cut", numbers, again),), [(), (a,), (a, b), (a, b, c), tree], deeds)

    def test_what_was_synced_is_not_lost(self):
        cut = ("cut", (0,), 0)
        a, b = ("/a", "file", "x"), ("/b", "folder")
        self.check(MAKE[:1] + (("sync",),) + MAKE[1:2] + (cut, cut), [(), (a,), (a,), (a, b), (a,), (a,)], MAKE[:1])
        # What came up once is not lost, either.
        self.check(MAKE[:1] + (("cut", (2,), 3), cut) + MAKE[1:2] + (cut,), [(), (a,), (a,), (a,), (a, b), (a,)], MAKE[:1])

    def test_deeds_that_are_refused(self):
        a = ("/a", "file", "x")
        events = (MAKE[0], MAKE[0], ("drop", "/b"), ("cut", "/a", 5), ("bundle", (("folder", "/c"), ("folder", "/c"))), ("cut", "/a", 1))
        self.check(events, [()] + [(a,)] * 6, (MAKE[0], ("cut", "/a", 1)))

    def test_no_room(self):
        a, b = ("/a", "file", "x"), ("/b", "folder")
        self.check(MAKE, [(), (a,), (a, b), (a, b)], MAKE[:2], (3, 9))
        self.check(MAKE, [(), (a,), (a, b), (a, b)], MAKE[:2], (9, 1))
        self.check(MAKE, [(), (), (b,), (b,)], MAKE[1:2], (9, 0))
        # A sync makes room.
        write = ("write", "/a", 0, "z")
        self.check(MAKE[:1] + (write, ("sync",), write), [(), (a,), (a,), (a,), (a,)], MAKE[:1], (2, 1))
        events = MAKE[:1] + (("drop", "/a"), MAKE[1], ("sync",), MAKE[1])
        self.check(events, [(), (a,), (), (), (), (b,)], (MAKE[0], ("drop", "/a"), MAKE[1]), (2, 1))

    def test_cuts_in_syncs(self):
        a, b = ("/a", "file", "x"), ("/b", "folder")
        for number, period in [(0, 3), (1, 3), (2, 4), (3, 3), (5, 4), (3 * 10 ** 20 + 2, 4)]:
            events = MAKE[:2] + (("cut sync", (number, 1)),)
            self.check(events, [(), (a,), (a, b), (a, b)], MAKE[:2])
            self.assertEqual(((), period), (live(SIZE, events).deeds, live(SIZE, events).period))
            self.check(events + (("cut", (0,), 0),), [(), (a,), (a, b), (a, b), (a, b)], MAKE[:2])
        # The page of the head that is not written yet cannot be read, keeps what it had, or is the new one.
        drive = Drive(new_image(SIZE))
        for number, page in [(0, None), (1, new_image(SIZE)[0]), (2, head_write(drive)[1])]:
            image = kept(drive.image, (head_write(drive),), (number - 1,))
            self.assertEqual(page, image[0])
            self.assertEqual(told(Drive(image)), told(live(SIZE, (("cut sync", (number,)),))))

    def test_cuts_while_settling(self):
        # The card that is lost with its part is blanked while settling, or cannot be read, or stays: it is none of a drive's.
        for again in range(4):
            for number in range(3):
                events = (("file", "/a", "x"), ("cut", (2, number), again))
                image = self.settled_by(events, again)
                self.assertEqual(told(Drive(image)), told(live(SIZE, events)))

    def settled_by(self, events, again):
        drive = live(SIZE, events[:1])
        image = kept(drive.image, drive.writes, keeping_by(drive.writes, events[1][1]))
        for _ in range(again):
            first = settling(image)[0]
            image = kept(image, first, keeping_by(first, events[1][1]))
        return image

    def test_like_drives_that_begin_anew(self):
        chance = some_chance(81)
        for _ in range(25):
            size = (chance.choice([3, 6, 12]), chance.choice([3, 10, 40]))
            events = random_events(chance, 40)
            drives = list(drives_behind(size, events))
            trees = story(size, events)
            self.assertEqual(len(events) + 1, len(trees))
            self.assertEqual(trees[-1], drives[-1].tree)
            self.assertEqual(told(drives[-1]), told(live(size, events)))
            self.assertEqual(trees[-1], done_all((), counted(size, events)))

    def test_counted_deeds_are_pasts(self):
        chance = some_chance(82)
        for _ in range(40):
            deeds, tree = [], ()
            for _ in range(chance.randrange(1, 7)):
                deeds.append(random_let_by(chance, tree, SHORT))
                tree = done(tree, deeds[-1])
            deeds = tuple(deeds)
            numbers = tuple([chance.choice([0, 1, 2, 2, 2, 3, 3, 4]) for _ in range(20)])
            left = counted((20, 90), deeds + (("cut", numbers, chance.randrange(4)),))
            places = self.places_of(deeds, left)
            self.assertIs(True, is_past((), deeds, places))
            self.assertEqual(tree_of((), deeds, places), live((20, 90), deeds + (("cut", numbers, 0),)).tree)
            self.assertEqual(deeds, counted((20, 90), deeds))

    def places_of(self, deeds, left):
        """The places of some of the deeds, in order; of equal ones all those that are pasts are tried."""
        def found(at, rest):
            if not rest:
                yield ()
            elif at < len(deeds):
                if deeds[at] == rest[0]:
                    yield from [(at,) + more for more in found(at + 1, rest[1:])]
                yield from found(at + 1, rest)
        return [places for places in found(0, left) if is_past((), deeds, places)][0]

    def test_lists_are_new(self):
        trees = story(SIZE, MAKE)
        trees.clear()
        self.assertEqual(4, len(story(SIZE, MAKE)))
        drive = live(SIZE, MAKE)
        drive.do(("drop", "/a"))
        self.assertEqual(MAKE, live(SIZE, MAKE).deeds)


class Events(unittest.TestCase):
    def check_wrong(self, events, index):
        for ask in ASKS:
            check_raises(self, BadEvents(index), ask, (1, 0), events)

    def test_how_many(self):
        for event in [("sync",), ("cut", (0,), 0), ("drop", "/a"), ("cut sync", (0,))]:
            self.assertEqual([()] * 201, story((1, 0), (event,) * 200))
            self.check_wrong((event,) * 201, None)
        self.check_wrong((None,) * 201, None)
        self.assertEqual(202, live((1, 0), (("sync",),) * 200).period)
        self.assertEqual(202, live((1, 0), (("cut", (0,), 3),) * 200).period)

    def test_no_tuples(self):
        for value in ODD + ["", "sync", [("sync",)], {("sync",): 1}]:
            self.check_wrong(value, None)

    def test_numbers(self):
        self.assertEqual((), live((1, 0), (("cut", (0,) * 300, 3), ("cut sync", (10 ** 60,) * 300))).tree)
        for numbers in ODD + ["", "0", (), [0], (-1,), (True,), (0, False), (None,), ("0",), ((0,),), (0,) * 301, (0, -1), (0,) * 299 + (None,),
                              deep(5000), {0: 0}]:
            for event in [("cut", numbers, 0), ("cut sync", numbers)]:
                self.check_wrong((event,), 0)
                self.check_wrong((("sync",), ("folder", "/a"), event, None), 2)

    def test_how_often_again(self):
        for again in range(4):
            self.assertEqual([(), ()], story((1, 0), (("cut", (0,), again),)))
        for again in ODD + ["", "1", 4, -1, 10 ** 30, (1,), True]:
            if isinstance(again, bool) or not isinstance(again, int) or not 0 <= again <= 3:
                self.check_wrong((("cut", (0,), again),), 0)

    def test_wrong_events(self):
        for event in NOTHING + [
            (), "", "sync", ["sync"], ("sync", 0), ("Sync",), ("sync",) * 2, ("cut",), ("cut", (0,)), ("cut", (0,), 0, 0), ("cut", 0, 0), (("sync",),),
            ("cut sync",), ("cut sync", (0,), 0), ("cut sync", 0), ("cut", "/", 0), ("cut", "/a", 2001), ("cut", "/a", (0,)), ("sync cut", (0,)),
            ["cut", (0,), 0], ("drop", "/"), ("bundle", (("sync",),)), ("bundle", ()), (None, (0,), 0), {"sync": ()},
        ]:
            self.check_wrong((event,), 0)
            self.check_wrong(MAKE + (event, None), 3)

    def test_sizes_come_first(self):
        for ask in ASKS:
            for size in NOTHING + ["", (), (1,), (0, 0), (25, 0), (1, 201), (1, -1), (True, 0), [1, 0], (1, 0, 0)]:
                check_raises(self, BadSize(), ask, size, None)
                check_raises(self, BadSize(), ask, size, MAKE)

    def test_arguments_stay_as_they_were(self):
        events = MAKE + (("cut", (2, 1), 2), ("sync",), ("cut sync", (0, 1)))
        given = copy.deepcopy(events)
        for ask in ASKS:
            ask(SIZE, given)
        self.assertEqual(events, given)


class Between(unittest.TestCase):
    A, B, C = ("/a", "folder"), ("/a/f", "file", "hi"), ("/g", "same", "/a/f")

    def check(self, one, other, *deeds):
        self.assertEqual(deeds, deeds_between(one, other))
        self.assertEqual(other, done_all(one, deeds))

    def test_a_tree_and_itself(self):
        for tree in [(), (self.A,), (self.A, self.B, self.C)]:
            self.check(tree, tree)

    def test_from_and_to_the_empty_tree(self):
        tree = (self.A, self.B, self.C)
        self.check((), tree, ("folder", "/a"), ("file", "/a/f", "hi"), ("link", "/a/f", "/g"))
        self.check(tree, (), ("drop", "/g"), ("drop", "/a/f"), ("drop", "/a"))

    def test_a_file_that_loses_its_least_way(self):
        self.check((self.A, self.B, self.C), (self.A, ("/g", "file", "hi")), ("drop", "/g"), ("drop", "/a/f"), ("file", "/g", "hi"))
        self.check((self.A, ("/g", "file", "hi")), (self.A, self.B, self.C), ("drop", "/g"), ("file", "/a/f", "hi"), ("link", "/a/f", "/g"))

    def test_contents_of_a_file_with_several_ways(self):
        other = (self.A, ("/a/f", "file", "ho"), self.C)
        self.check((self.A, self.B, self.C), other, ("drop", "/g"), ("drop", "/a/f"), ("file", "/a/f", "ho"), ("link", "/a/f", "/g"))
        # Only the lines of this file: another file's stay.
        more = (("/h", "file", "z"), ("/i", "same", "/h"))
        self.check((self.A, self.B, self.C) + more, other + more,
                   ("drop", "/g"), ("drop", "/a/f"), ("file", "/a/f", "ho"), ("link", "/a/f", "/g"))

    def test_ways_that_come_and_go(self):
        one = (("/a", "file", "x"), ("/b", "same", "/a"), ("/c", "same", "/a"))
        self.check(one, (one[0], one[2], ("/d", "same", "/a")), ("drop", "/b"), ("link", "/a", "/d"))
        self.check(one, (one[0], ("/b", "file", "x"), ("/c", "same", "/b")),
                   ("drop", "/c"), ("drop", "/b"), ("file", "/b", "x"), ("link", "/b", "/c"))
        eight = tuple([("/" + letter, "same", "/a") for letter in "bcdefgh"])
        self.check(one[:1] + eight, one[:1] + eight[1:] + (("/i", "same", "/a"),), ("drop", "/b"), ("link", "/a", "/i"))

    def test_a_folder_where_a_file_was(self):
        self.check((("/a", "file", "x"),), (("/a", "folder"), ("/a/b", "file", "x")), ("drop", "/a"), ("folder", "/a"), ("file", "/a/b", "x"))
        self.check((self.A, self.B, self.C), (("/a", "file", "hi"), ("/g", "same", "/a")),
                   ("drop", "/g"), ("drop", "/a/f"), ("drop", "/a"), ("file", "/a", "hi"), ("link", "/a", "/g"))

    def test_random_trees(self):
        chance = some_chance(83)
        trees = [()]
        for _ in range(120):
            trees.append(done(trees[-1], random_let_by(chance, trees[-1], WAYS)))
        for _ in range(300):
            one, other = chance.choice(trees), chance.choice(trees)
            deeds = deeds_between(one, other)
            self.assertEqual(other, done_all(one, deeds))
            drops = [deed[1] for deed in deeds if deed[0] == "drop"]
            self.assertEqual(sorted(drops, reverse=True), drops)
            self.assertEqual(list(deeds), [deed for deed in deeds if deed[0] == "drop"] + [deed for deed in deeds if deed[0] != "drop"])
            for line in one:
                whole = line[1] != "same" or [part for part in one if part[0] == line[2]] == [part for part in other if part[0] == line[2]]
                self.assertIs(line not in other or not whole, line[0] in drops)

    def test_wrong_trees(self):
        for value in NOTHING:
            index = 0 if isinstance(value, tuple) else None
            check_raises(self, BadTree(index), deeds_between, value, None)
            check_raises(self, BadTree(index), deeds_between, (self.A,), value)
        check_raises(self, BadTree(1), deeds_between, (self.A, self.A), None)
        check_raises(self, BadTree(2), deeds_between, (), (self.A, self.B, self.B))

    def test_trees_stay_as_they_were(self):
        one, other = copy.deepcopy((self.A, self.B)), copy.deepcopy((self.A, self.B, self.C))
        deeds_between(one, other)
        self.assertEqual(((self.A, self.B), (self.A, self.B, self.C)), (one, other))
        self.assertEqual((), tree_up(new_image((1, 0))))


if __name__ == "__main__":
    unittest.main()
