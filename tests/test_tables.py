"""Points 38 to 41: asked and settled ways, tables, rows that cannot be told apart, and exchanges."""

import copy
import unittest
from itertools import combinations

from keptanyhow.deeds import done, done_all
from keptanyhow.errors import BadDeeds, BadNumber, BadPast, BadTree, BadWays, NotMade, TooLong, TooMany
from keptanyhow.needs import end, leans, needs, pasts, tree_of, trees
from keptanyhow.tables import alike, asked_ways, exchanged, marks, parting, plain_row, settled_ways, table
from tests.nested import WAYS, random_let_by, some_chance
from tests.refusing import NOTHING, NO_PLACES, check_raises
from tests.rowing import JUST_3000, MORE_THAN_3000, SHORT, SIXTY, chains, random_row
from tests.values import ODD, deep

TREE = (("/a", "folder"), ("/a/f", "file", "hi"), ("/g", "same", "/a/f"))
DEEDS = (("write", "/g", 0, "ho"), ("move", "/a/f", "/f"), ("folder", "/b"), ("drop", "/a"))
TINY = ["/a", "/b", "/a/a", "/a/b"]
# A file is moved from one folder to another one, and then the names of these two are exchanged.
TWICE = (
    (("/d", "folder"), ("/d/x", "file", ""), ("/e", "folder"), ("/y", "same", "/d/x")),
    (("move", "/d/x", "/e/x"), ("bundle", (("move", "/d", "/t"), ("move", "/e", "/d"), ("move", "/t", "/e")))),
)
LETTERS = "abcdefghijklmnopqrstuvwxyz"


def probe(way):
    """Deeds that look at a way and at what is above it, whatever stands there: one of them is let by."""
    return [("bundle", (("file", way, ""), ("drop", way))), ("cut", way, 0),
            ("bundle", (("file", way + "/zzz", ""), ("drop", way + "/zzz")))]


def looked_at(tree, deeds, way):
    """What a next deed leans on that looks at a way and above it, told by such a deed."""
    if way == "/":
        return ()
    for deed in probe(way):
        try:
            return leans(tree, deeds + (deed,))[-1]
        except BadDeeds:
            pass


class Asked(unittest.TestCase):
    def test_rows_without_deeds(self):
        self.assertEqual(("/",), asked_ways((), ()))
        self.assertEqual(("/", "/a", "/a/f", "/g"), asked_ways(TREE, ()))
        self.assertEqual(("/", "/a", "/a/f", "/g"), settled_ways(TREE, (), ()))
        self.assertEqual(((TREE, (("/", "/a", "/a/f", "/g"),)),), table(TREE, ()))

    def test_empty_ways(self):
        self.assertEqual(("/", "/a", "/b", "/f", "/g"), asked_ways(TREE, DEEDS))
        self.assertEqual(("/", "/a", "/a/f", "/b", "/f", "/g"), asked_ways(TREE, DEEDS[:3]))
        # What left a place before the last sync is not asked of.
        self.assertEqual(("/", "/b", "/f", "/g"), asked_ways(end(TREE, DEEDS), ()))
        self.assertEqual(("/", "/b", "/c", "/f", "/g"), asked_ways(end(TREE, DEEDS), (("bundle", (("file", "/c", ""), ("drop", "/c"))),)))
        # A place that something left and came to again is no empty way.
        self.assertEqual(("/", "/a", "/a/f", "/g"), asked_ways(TREE, (("drop", "/g"), ("folder", "/g"))))

    def test_empty_ways_in_folders_that_moved(self):
        row = (("drop", "/a/f"), ("move", "/a", "/b"))
        self.assertEqual(("/", "/a", "/b", "/b/f", "/g"), asked_ways(TREE, row))
        row = row + (("folder", "/a"),)
        self.assertEqual(("/", "/a", "/b", "/b/f", "/g"), asked_ways(TREE, row))
        self.assertEqual(("/", "/a", "/a/f", "/b", "/g"), asked_ways(TREE, row + (("drop", "/a"), ("move", "/b", "/a"))))
        self.assertEqual(("/", "/a", "/b", "/g"), asked_ways(TREE, row[:2] + (("drop", "/b"),)))

    def test_settled_ways(self):
        told = {
            (): ("/",), (0,): ("/", "/g"), (0, 1): ("/", "/f", "/g"), (0, 1, 2): ("/", "/b", "/f", "/g"),
            (0, 1, 2, 3): ("/", "/a", "/b", "/f", "/g"), (0, 1, 3): ("/", "/a", "/f", "/g"), (0, 2): ("/", "/b"), (2,): ("/", "/b"),
        }
        # The file at /f and /g was written by the first two deeds.
        told = {past: tuple([way for way in ways if way not in ("/f", "/g") or 1 in past]) for past, ways in told.items()}
        self.assertEqual(sorted(told), pasts(TREE, DEEDS))
        for past, ways in told.items():
            self.assertEqual(ways, settled_ways(TREE, DEEDS, past))

    def test_like_next_deeds(self):
        chance = some_chance(71)
        for turn in range(100):
            tree, deeds = random_row(chance, chance.randrange(5), chance.randrange(6), TINY if turn % 2 else SHORT)
            last = end(tree, deeds)
            asked = asked_ways(tree, deeds)
            told = {way: looked_at(tree, deeds, way) for way in asked}
            folders = ["/"] + [line[0] for line in last if line[1] == "folder"]
            for way in [folder.rstrip("/") + "/" + name for folder in folders for name in "abc"]:
                # An empty way is not asked just where nothing left it since: a deed at the folder tells the same then.
                if way not in asked:
                    self.assertEqual(looked_at(tree, deeds, way.rpartition("/")[0] or "/"), looked_at(tree, deeds, way))
            for past in pasts(tree, deeds):
                settled = tuple([way for way in asked if set(told[way]) <= set(past)])
                self.assertEqual(settled, settled_ways(tree, deeds, past))

    def test_wrong_pasts(self):
        for past in NO_PLACES + ["", [], (1,), (3,), (4,), (1, 0), (0, 0), (True,)]:
            check_raises(self, BadPast(), settled_ways, TREE, DEEDS, past)


class Tables(unittest.TestCase):
    def test_table(self):
        deeds = (("file", "/b", ""), ("drop", "/b"), ("folder", "/c"))
        made, folder = ("/b", "file", ""), ("/c", "folder")
        self.assertEqual((
            ((), (("/", "/b"),)), ((made,), (("/",),)), ((made, folder), (("/", "/c"),)), ((folder,), (("/", "/b", "/c"),)),
        ), table((), deeds))

    def test_several_tuples_for_one_tree(self):
        # The tree behind the one deed alone is that behind the other one alone, but it settles other ways.
        found = (("/d", "folder"), ("/e", "folder"), ("/e/x", "file", ""), ("/y", "same", "/e/x"))
        whole = ("/", "/d", "/d/x", "/e", "/e/x", "/t", "/y")
        self.assertEqual([(), (0,), (0, 1), (1,)], pasts(*TWICE))
        self.assertEqual([found, found], [tree_of(*TWICE, past) for past in [(0,), (1,)]])
        self.assertEqual(((TWICE[0], (whole,)), (found, (("/", "/d", "/e", "/t"), ("/", "/y")))), table(*TWICE))

    def test_like_all_pasts(self):
        chance = some_chance(72)
        most = 0
        for turn in range(150):
            tree, deeds = random_row(chance, chance.randrange(4), chance.randrange(7), TINY if turn % 2 else SHORT)
            tree, deeds = TWICE if turn == 0 else (tree, deeds)
            found = {}
            for past in pasts(tree, deeds):
                found.setdefault(tree_of(tree, deeds, past), set()).add(settled_ways(tree, deeds, past))
            told = []
            for behind in sorted(found):
                best = [ways for ways in found[behind] if not any(set(ways) < set(other) for other in found[behind])]
                told.append((behind, tuple(sorted(best))))
                most = max(most, len(best))
            self.assertEqual(tuple(told), table(tree, deeds))
            self.assertEqual(trees(tree, deeds), [behind for behind, _ in told])
        self.assertGreater(most, 1)

    def test_too_many(self):
        self.assertEqual(3000, len(table((), JUST_3000)))
        for row in (MORE_THAN_3000, SIXTY):
            check_raises(self, TooMany(3000), table, (), row)
            check_raises(self, TooMany(3000), alike, (), row, (), row)
            check_raises(self, TooMany(3000), parting, (), row, end((), row), ())
            check_raises(self, TooMany(3000), parting, end((), row), (), (), row)
            self.assertEqual(len(end((), row)) + 1, len(asked_ways((), row)))
            # Of rows with other trees at their ends there are no tables to be compared.
            self.assertIs(False, alike((), row, (), row[:1]))
            self.assertIs(None, parting((), row[:1], (), row))


class Compared(unittest.TestCase):
    def check_parted(self, one, other, told):
        self.assertEqual(told, parting(*one, *other))
        self.assertEqual(told, parting(*other, *one))
        self.assertIs(False, alike(*one, *other))
        self.assertIs(False, alike(*other, *one))

    def check_alike(self, one, other):
        self.assertIs(True, alike(*one, *other))
        self.assertIs(True, alike(*other, *one))
        self.assertIs(None, parting(*one, *other))

    def test_exchanges(self):
        row = (("file", "/a", "x"), ("file", "/b", "y"), ("folder", "/c"))
        for other in [(0, 2, 1), (1, 0, 2), (1, 2, 0), (2, 0, 1), (2, 1, 0)]:
            self.check_alike(((), row), ((), tuple([row[place] for place in other])))
        self.check_alike((TREE, DEEDS), (TREE, (DEEDS[2],) + DEEDS[:2] + DEEDS[3:]))

    def test_what_was_synced_is_not_lost(self):
        deed = ("file", "/a", "x")
        self.check_parted(((), (deed,)), ((("/a", "file", "x"),), ()), ((), ("/",)))
        self.check_alike(((), (deed,)), ((), (("bundle", (deed,)),)))

    def test_bundles(self):
        row = (("file", "/a", "x"), ("file", "/b", "y"))
        self.check_parted(((), row), ((), (("bundle", row),)), ((("/a", "file", "x"),), ("/", "/a")))

    def test_ways_asked_in_only_one_row(self):
        self.check_parted((TREE[:1], (("drop", "/a"),)), ((), ()), (TREE[:1], ("/",)))
        # What came to a place and left it at once is not missed, and the way is settled where that above it is.
        gone = ("bundle", (("folder", "/b"), ("drop", "/b")))
        self.assertEqual((("/", "/b"), ("/",)), (asked_ways((), (gone,)), asked_ways((), ())))
        self.check_alike(((), (gone,)), ((), ()))
        self.check_parted(((), (("folder", "/b"), ("drop", "/b"))), ((), (gone,)), ((("/b", "folder"),), ("/",)))
        # In a folder, such a way is settled with the folder alone, or by all deeds.
        one = (("folder", "/d"), ("bundle", (("file", "/d/b", ""), ("drop", "/d/b"))))
        self.assertEqual(("/", "/d", "/d/b"), asked_ways((), one))
        self.assertEqual(("/", "/d"), settled_ways((), one, (0,)))
        self.check_alike(((), one), ((), one[:1]))
        # With a past that lacks what left the way, and has another tree, the rows are not alike.
        other = (("folder", "/d"), ("file", "/d/b", ""), ("drop", "/d/b"))
        self.check_parted(((), one), ((), other), ((("/d", "folder"), ("/d/b", "file", "")), ("/", "/d")))
        # /i is asked in the other row only: here it is settled wherever / is, with the file at /h, too.
        self.check_parted(
            (TREE, (("file", "/h", ""), ("drop", "/h"))), (TREE, (("file", "/i", ""), ("drop", "/i"))),
            (TREE + (("/h", "file", ""),), ("/", "/a", "/a/f", "/g", "/i")))

    def test_several_tuples_for_one_tree(self):
        tree, deeds = TWICE
        found = table(tree, deeds)[1]
        self.check_parted(TWICE, (tree, (("bundle", deeds[:1] + deeds[1][1]),)), (found[0], ("/", "/d", "/e", "/t")))
        self.check_parted(TWICE, (tree, ()), (found[0], ("/", "/d", "/e", "/t")))
        self.check_alike(TWICE, TWICE)

    def test_other_trees_at_the_ends(self):
        self.assertIs(False, alike((), (), TREE, ()))
        self.assertIs(None, parting((), (), TREE, ()))
        self.assertIs(False, alike((), (("folder", "/a"),), (), (("folder", "/b"),)))
        self.assertIs(None, parting((), (("folder", "/a"),), (), (("folder", "/b"),)))

    def some_rows(self, chance):
        """The rows that end in a tree, for each of some trees."""
        found = {}
        for _ in range(1500):
            tree, deeds = random_row(chance, chance.randrange(3), chance.randrange(4), TINY)
            found.setdefault(end(tree, deeds), set()).add((tree, deeds))
        return {last: chance.sample(sorted(rows), min(12, len(rows))) for last, rows in found.items()}

    def check_what_follows(self, chance, last, one, other):
        """Whether the same trees can come up of alike rows when more deeds follow."""
        deeds = []
        for _ in range(chance.randrange(1, 4)):
            deeds.append(random_let_by(chance, done_all(last, tuple(deeds)), TINY))
        deeds = tuple(deeds)
        self.assertEqual(trees(one[0], one[1] + deeds), trees(other[0], other[1] + deeds), (one, other, deeds))

    def check_marks(self, last, one, other):
        """Whether the ways that part two rows tell them apart when they are marked."""
        deeds = marks(last, parting(*one, *other)[1])
        self.assertNotEqual(trees(one[0], one[1] + deeds), trees(other[0], other[1] + deeds), (one, other))

    def test_just_then_the_same_can_come_up(self):
        chance = some_chance(73)
        many = [0, 0]
        for last, rows in self.some_rows(chance).items():
            for one, other in combinations(rows, 2):
                same = alike(*one, *other)
                self.assertIs(same, parting(*other, *one) is None)
                many[same] += 1
                if same:
                    self.check_what_follows(chance, last, one, other)
                else:
                    self.check_marks(last, one, other)
        self.assertGreater(min(many), 30)

    def test_order_of_errors(self):
        for ask in (alike, parting):
            for value in NOTHING:
                index = 0 if isinstance(value, tuple) else None
                check_raises(self, BadTree(index), ask, value, None, None, None)
                check_raises(self, BadTree(index), ask, TREE, DEEDS, value, None)
            for value in ODD:
                check_raises(self, BadDeeds(None), ask, TREE, value, None, None)
                check_raises(self, BadDeeds(None), ask, TREE, DEEDS, TREE, value)
            check_raises(self, BadDeeds(4), ask, TREE, DEEDS + (("drop", "/a"),), None, None)
            check_raises(self, BadDeeds(1), ask, (), SIXTY, (), (("folder", "/a"), None))


class Marks(unittest.TestCase):
    def test_marks(self):
        self.assertEqual((
            ("link", "/g", "/marka"), ("file", "/a/markb", ""), ("link", "/a/f", "/a/markc"), ("file", "/markd", ""),
            ("bundle", (("folder", "/a/x"), ("file", "/a/x/marke", ""))), ("bundle", (("folder", "/b"), ("file", "/b/markf", ""))),
        ), marks(TREE, ("/g", "/a", "/a/f", "/", "/a/x", "/b")))
        self.assertEqual((), marks(TREE, ()))
        self.assertEqual((("file", "/marka", ""),), marks((), ("/",)))

    def test_26_ways_and_27(self):
        ways = tuple(["/" + letter for letter in LETTERS])
        told = marks((), ways)
        self.assertEqual([("bundle", (("folder", "/" + letter), ("file", f"/{letter}/mark{letter}", ""))) for letter in LETTERS], list(told))
        self.assertEqual(52, len(done_all((), told)))
        check_raises(self, BadWays(), marks, (), ways + ("/",))
        check_raises(self, BadWays(), marks, (), (None,) * 27)

    def test_wrong_ways(self):
        for value in NOTHING + ["", "/", ["/"], {"/": 1}, ("a",), ("/A",), ("/a/",), ("/", "/"), ("/g", "/a", "/g"), ("/", None),
                                ("/b/c",), ("/g/x",), ("/a/f/x",), ("/b", "/b/c"), (("/",),), ("//",), ("",), (deep(5000),)]:
            check_raises(self, BadWays(), marks, TREE, value)

    def test_names_that_begin_so(self):
        for name in ("mark", "marka", "market", "markzzzz"):
            for ways in ((), ("/",), ("/a", "/b")):
                check_raises(self, NotMade(), marks, (("/" + name, "folder"),), ways[:1])
                check_raises(self, NotMade(), marks, (("/a", "folder"), ("/a/" + name, "file", "")), ways)
            check_raises(self, NotMade(), marks, TREE, ("/" + name,))
            check_raises(self, NotMade(), marks, TREE, ("/", "/a/" + name))
            check_raises(self, BadWays(), marks, TREE, ("/b/" + name,))
            check_raises(self, BadWays(), marks, (("/" + name, "folder"),), None)
        for name in ("mar", "ark", "amark", "marc", "m"):
            self.assertEqual(1, len(marks((("/" + name, "folder"),), ("/" + name,))))

    def test_a_file_that_has_many_ways(self):
        eight = (("/a", "file", "x"),) + tuple([("/" + letter, "same", "/a") for letter in "bcdefgh"])
        self.assertEqual((("link", "/b", "/marka"),), marks(eight, ("/b",)))
        check_raises(self, TooLong(), done_all, eight, marks(eight, ("/b",)))
        self.assertEqual(9, len(done(eight[:7], marks(eight[:7], ("/a",))[0])) + 1)

    def test_order_of_errors(self):
        for tree in NOTHING:
            check_raises(self, BadTree(0 if isinstance(tree, tuple) else None), marks, tree, None)
        check_raises(self, BadTree(1), marks, (("/mark", "folder"),) * 2, ("/",))


class Exchanges(unittest.TestCase):
    def shares(self, tree, deeds, place):
        try:
            exchanged(tree, deeds, place)
        except NotMade:
            return True
        return False

    def test_exchanged(self):
        row = (("file", "/a", "x"), ("file", "/b", "y"), ("folder", "/c"))
        self.assertEqual((row[1], row[0], row[2]), exchanged((), row, 0))
        self.assertEqual((row[0], row[2], row[1]), exchanged((), row, 1))
        self.assertEqual(row, exchanged((), exchanged((), row, 0), 0))

    def test_what_is_shared(self):
        for tree, deeds, shared in [
            (TREE, (("write", "/g", 0, "1"), ("write", "/a/f", 0, "2")), True),
            (TREE, (("write", "/g", 0, "1"), ("file", "/h", "")), False),
            (TREE, (("folder", "/a/b"), ("file", "/a/c", "")), False),
            (TREE, (("folder", "/b"), ("file", "/b/c", "")), True),
            # Folders on the way: one deed writes it, and the other one looks at it, be it ahead or behind.
            (TREE, (("file", "/a/c", ""), ("move", "/a", "/b")), True),
            (TREE, (("move", "/a", "/b"), ("file", "/b/c", "")), True),
            (TREE, (("cut", "/g", 0), ("move", "/a", "/b")), False),
            # Things that left.
            (TREE, (("drop", "/g"), ("file", "/g", "")), True),
            (TREE, (("move", "/g", "/h"), ("file", "/g", "")), True),
            (TREE, (("move", "/a/f", "/f"), ("drop", "/a")), True),
            # A place that a file left, then the file that left: neither leans on the other one.
            (TREE, (("drop", "/a/f"), ("drop", "/a")), True),
        ]:
            with self.subTest(deeds=deeds):
                self.assertIs(shared, self.shares(tree, deeds, 0))
        row = (("move", "/g", "/h"), ("folder", "/g"), ("write", "/h", 0, "x"))
        self.assertEqual(((), (0,), (0,)), leans(TREE, row))
        check_raises(self, NotMade(), exchanged, TREE, row, 1)

    def test_wrong_places(self):
        row = (("file", "/a", "x"), ("file", "/b", "y"), ("folder", "/c"))
        for place in [value for value in NOTHING if not isinstance(value, int) or isinstance(value, bool)] + [2, 3, -1, 10 ** 30, "0", (0,)]:
            check_raises(self, BadNumber(), exchanged, (), row, place)
        for place in (0, 1, -1):
            check_raises(self, BadNumber(), exchanged, (), (), place)
            check_raises(self, BadNumber(), exchanged, (), row[:1], place)
        self.assertEqual(SIXTY[:58] + SIXTY[:57:-1], exchanged((), SIXTY, 58))
        check_raises(self, BadNumber(), exchanged, (), SIXTY, 59)

    def test_neighbours_that_share_nothing(self):
        chance = some_chance(74)
        many = 0
        for turn in range(200):
            tree, deeds = random_row(chance, chance.randrange(4), chance.randrange(2, 7), SHORT if turn % 2 else WAYS)
            for place in range(len(deeds) - 1):
                if self.shares(tree, deeds, place):
                    continue
                many += 1
                row = exchanged(tree, deeds, place)
                self.assertNotIn(place, leans(tree, deeds)[place + 1])
                self.assertEqual(end(tree, deeds), end(tree, row))
                self.assertIs(True, alike(tree, deeds, tree, row))
                self.assertEqual(deeds, exchanged(tree, row, place))
        self.assertGreater(many, 100)

    def all_rows(self, tree, deeds, most):
        """The rows that come by exchanges, None if there are more than so many."""
        seen, queue = {deeds}, [deeds]
        while queue:
            row = queue.pop()
            for place in range(len(row) - 1):
                if not self.shares(tree, row, place):
                    other = exchanged(tree, row, place)
                    if other not in seen:
                        seen.add(other)
                        queue.append(other)
            if len(seen) > most:
                return None
        return seen

    def test_plain_rows(self):
        chance = some_chance(75)
        sizes = []
        for turn in range(120):
            tree, deeds = random_row(chance, chance.randrange(4), chance.randrange(7), SHORT if turn % 2 else WAYS)
            rows = self.all_rows(tree, deeds, 150)
            if rows is not None:
                sizes.append(len(rows))
                self.assertEqual(min(rows), plain_row(tree, deeds))
                for row in chance.sample(sorted(rows), min(4, len(rows))):
                    self.assertEqual(min(rows), plain_row(tree, row))
                    self.assertIs(True, alike(tree, deeds, tree, row))
        self.assertGreater(max(sizes), 20)

    def test_plain_rows_at_the_edges(self):
        self.assertEqual((), plain_row((), ()))
        self.assertEqual(chains(60), plain_row((), chains(60)))
        self.assertEqual(SIXTY, plain_row((), SIXTY[::-1]))
        self.assertEqual(DEEDS[:1], plain_row(TREE, DEEDS[:1]))
        row = (("write", "/g", 0, "z"), ("write", "/g", 0, "a"), ("cut", "/g", 0))
        self.assertEqual(row, plain_row(TREE, row))
        # Bundles stand ahead of the words that are greater, and numbers are ordered as numbers.
        tree = (("/a", "file", "x" * 20), ("/b", "file", ""))
        row = (("drop", "/b"), ("bundle", (("cut", "/a", 11),)), ("folder", "/c"))
        self.assertEqual((row[1], row[0], row[2]), plain_row(tree, row))
        tree = tree[:1] + (("/b", "file", "y" * 20),)
        self.assertEqual((("cut", "/a", 11), ("cut", "/b", 9)), plain_row(tree, (("cut", "/b", 9), ("cut", "/a", 11))))

    def test_order_of_errors(self):
        for ask in (lambda tree, deeds: exchanged(tree, deeds, None), lambda tree, deeds: settled_ways(tree, deeds, None),
                    asked_ways, table, plain_row):
            for tree in NOTHING:
                check_raises(self, BadTree(0 if isinstance(tree, tuple) else None), ask, tree, None)
            for deeds in ODD + [SIXTY + (("folder", "/z"),), list(DEEDS)]:
                check_raises(self, BadDeeds(None), ask, TREE, deeds)
            check_raises(self, BadDeeds(4), ask, TREE, DEEDS + (("drop", "/a"), None))
            check_raises(self, BadDeeds(1), ask, TREE, DEEDS[:1] + (None,))

    def test_arguments_stay_as_they_were(self):
        told = (copy.deepcopy(TREE), copy.deepcopy(DEEDS))
        table(*told)
        alike(*told, *told)
        plain_row(*told)
        asked_ways(*told)
        self.assertEqual((TREE, DEEDS), told)
        self.assertEqual(((), (0,), (), (0, 1)), needs(*told))


if __name__ == "__main__":
    unittest.main()
