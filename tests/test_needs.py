"""Points 30 to 33: rows of deeds, what they lean on, their pasts and trees."""

import copy
import unittest
from itertools import combinations

from keptanyhow.deeds import done_all
from keptanyhow.errors import BadDeeds, BadNumber, BadPast, BadPlaces, BadTree, TooMany
from keptanyhow.needs import (
    count_pasts, end, greatest_without, is_past, least_with, leans, lost_with, needs, past_for, pasts, tree_of, trees,
)
from tests.leaning import Row, needs_of, pasts_of
from tests.nested import WAYS, some_chance
from tests.refusing import NO_PLACES, NOTHING, check_raises
from tests.rowing import JUST_3000, MORE_THAN_3000, SHORT, SIXTY, chains, random_row
from tests.values import ODD, deep

SYNCED = (("/a", "folder"), ("/a/f", "file", "x"), ("/g", "file", "y"))
DEEDS = (("file", "/a/h", "1"), ("move", "/a/f", "/f"), ("bundle", (("drop", "/a/h"), ("drop", "/a"))), ("write", "/g", 1, "z"))
# All that take a row, with arguments behind it that are right for any.
ASKS = [
    end, leans, needs, pasts, trees, count_pasts, lambda tree, deeds: lost_with(tree, deeds, 0),
    lambda tree, deeds: is_past(tree, deeds, ()), lambda tree, deeds: least_with(tree, deeds, ()),
    lambda tree, deeds: greatest_without(tree, deeds, ()), lambda tree, deeds: tree_of(tree, deeds, ()),
    lambda tree, deeds: past_for(tree, deeds, ()),
]


class Rows(unittest.TestCase):
    def check_deeds(self, tree, deeds, index):
        for ask in ASKS:
            check_raises(self, BadDeeds(index), ask, tree, deeds)

    def test_end(self):
        self.assertEqual((), end((), ()))
        self.assertEqual(SYNCED, end(SYNCED, ()))
        self.assertEqual((("/f", "file", "x"), ("/g", "file", "yz")), end(SYNCED, DEEDS))

    def test_a_row_without_deeds(self):
        for tree in ((), SYNCED):
            self.assertEqual([(), (), [()], [tree], 1, (), (), tree, ()], [
                leans(tree, ()), needs(tree, ()), pasts(tree, ()), trees(tree, ()), count_pasts(tree, ()),
                least_with(tree, (), ()), greatest_without(tree, (), ()), tree_of(tree, (), ()), past_for(tree, (), tree)])
            self.assertIs(True, is_past(tree, (), ()))
            self.assertIs(None, past_for(tree, (), tree + (("/z", "folder"),)))
            for place in (0, -1, True, None):
                check_raises(self, BadNumber(), lost_with, tree, (), place)

    def test_how_many_deeds(self):
        self.assertEqual(60, len(end((), SIXTY)))
        self.assertEqual(((),) * 60, leans((), SIXTY))
        self.assertEqual(2 ** 60, count_pasts((), SIXTY))
        self.check_deeds((), SIXTY + (("file", "/x", ""),), None)
        self.check_deeds((), (None,) * 61, None)
        self.check_deeds((), SIXTY[:59] + (("file", "/aa", ""),), 59)

    def test_there_is_room_for_all(self):
        deep_way = "".join(["/abcdefgh"] * 60)
        deeds = tuple([("folder", deep_way[:9 * k]) for k in range(1, 61)])
        self.assertEqual(deep_way, end((), deeds)[-1][0])
        self.assertEqual(tuple(range(59)), needs((), deeds)[59])
        many = tuple([("file", "/" + letter, "x" * 2000) for letter in "abcdefghijklmnopqrstuvwxyz"])
        self.assertEqual(26, len(end((), many)))
        large = tuple([("/" + one + other, "file", "x" * 2000) for one in "abcdefghijkl" for other in "abcdefghijkl"])
        self.assertEqual(((), (0,)), needs(large, (("drop", "/ab"), ("folder", "/ab"))))

    def test_wrong_trees(self):
        for ask in ASKS:
            for tree in NOTHING:
                index = 0 if isinstance(tree, tuple) else None
                check_raises(self, BadTree(index), ask, tree, DEEDS)
                check_raises(self, BadTree(index), ask, tree, None)
            check_raises(self, BadTree(1), ask, SYNCED[1:][::-1], (None,))
            check_raises(self, BadTree(None), ask, list(SYNCED), DEEDS)

    def test_no_tuples(self):
        for deeds in ODD + ["", "drop", {}, list(DEEDS), iter(DEEDS)]:
            self.check_deeds(SYNCED, deeds, None)

    def test_items_that_are_no_deeds(self):
        for value in NOTHING + ["", (), ("sync",), ("drop", "/"), ("bundle", ()), ["drop", "/g"], ("write", "/g", True, "")]:
            self.check_deeds(SYNCED, (value,), 0)
            self.check_deeds(SYNCED, DEEDS + (value,), 4)
            self.check_deeds(SYNCED, DEEDS[:1] + (value,) + DEEDS[2:], 1)

    def test_refused_deeds(self):
        self.check_deeds((), (("drop", "/a"),), 0)
        self.check_deeds(SYNCED, DEEDS[:2] + (("drop", "/a"),) + DEEDS[2:], 2)
        self.check_deeds(SYNCED, DEEDS[:1] + (("bundle", (("folder", "/x"), ("folder", "/x"))), DEEDS[1]), 1)
        # The first item that is wrong is told, be it refused or no deed.
        self.check_deeds(SYNCED, (("folder", "/a"), None), 0)
        self.check_deeds(SYNCED, (None, ("folder", "/a")), 0)
        self.check_deeds(SYNCED, (("file", "/b/c", ""), ("folder", "/b")), 0)

    def test_arguments_stay_as_they_were(self):
        tree, deeds = copy.deepcopy(SYNCED), copy.deepcopy(DEEDS)
        for ask in ASKS:
            ask(tree, deeds)
        self.assertEqual((SYNCED, DEEDS), (tree, deeds))

    def test_lists_are_new(self):
        pasts(SYNCED, DEEDS).append(None)
        trees(SYNCED, DEEDS).clear()
        self.assertEqual(pasts_of(SYNCED, DEEDS), sorted(pasts(SYNCED, DEEDS), key=lambda past: (len(past), past)))
        self.assertIn(SYNCED, trees(SYNCED, DEEDS))


class Leaning(unittest.TestCase):
    def check(self, tree, deeds, *told):
        self.assertEqual(told, leans(tree, deeds))

    def test_things_that_are_written(self):
        self.check((), (("file", "/a", ""), ("write", "/a", 0, "x"), ("cut", "/a", 0), ("link", "/a", "/b"), ("drop", "/b")),
                   (), (0,), (0, 1), (0, 1, 2), (0, 1, 2, 3))
        self.check(SYNCED, (("write", "/g", 0, "x"), ("file", "/h", ""), ("cut", "/g", 0)), (), (), (0,))

    def test_folders_on_the_way(self):
        self.check((), (("folder", "/a"), ("folder", "/a/b"), ("file", "/a/b/f", ""), ("file", "/a/g", ""), ("file", "/h", "")),
                   (), (0,), (0, 1), (0,), ())
        # A move writes the folder that is moved, not those in which it stood and stands, and not what is in it.
        self.check(SYNCED, (("folder", "/b"), ("move", "/a", "/b/a"), ("folder", "/b/c"), ("write", "/b/a/f", 0, ""), ("folder", "/d")),
                   (), (0,), (0,), (0, 1), ())

    def test_what_left(self):
        self.check(SYNCED, (("move", "/g", "/h"), ("file", "/g", ""), ("write", "/h", 0, "z"), ("link", "/h", "/a/g")),
                   (), (0,), (0,), (0, 2))
        # What was done to a thing behind the deed by which it left a place is not leaned on.
        self.check(SYNCED, (("write", "/g", 0, "1"), ("move", "/g", "/h"), ("write", "/h", 0, "2"), ("folder", "/g")),
                   (), (0,), (0, 1), (0, 1))

    def test_only_what_left_last(self):
        self.check(SYNCED, (("move", "/g", "/h"), ("move", "/a/f", "/g"), ("drop", "/g"), ("file", "/g", "")),
                   (), (0,), (1,), (1, 2))

    def test_what_left_in_the_same_bundle(self):
        # What left the place ahead of the file that the bundle drops is not what left it last.
        self.check(SYNCED, (("move", "/g", "/h"), ("move", "/a/f", "/g"), ("bundle", (("drop", "/g"), ("file", "/g", "")))),
                   (), (0,), (1,))

    def test_what_was_replaced(self):
        self.check(SYNCED, (("move", "/a/f", "/g"), ("file", "/a/f", ""), ("drop", "/g"), ("folder", "/g")),
                   (), (0,), (0,), (0, 2))

    def test_what_left_a_dropped_folder(self):
        self.check(SYNCED, (("move", "/a/f", "/f"), ("write", "/f", 0, "z"), ("file", "/a/h", ""), ("drop", "/a/h"), ("drop", "/a")),
                   (), (0,), (), (2,), (0, 2, 3))

    def test_what_left_before_the_last_sync(self):
        row = (("move", "/g", "/h"), ("file", "/g", ""))
        self.check(SYNCED, row, (), (0,))
        self.check(end(SYNCED, row[:1]), row[1:], ())
        self.check(end(SYNCED, (("drop", "/a/f"),)), (("drop", "/a"), ("file", "/a", "")), (), (0,))

    def test_bundles(self):
        row = (("file", "/b", ""), ("file", "/c", ""), ("bundle", (("move", "/b", "/d"), ("move", "/c", "/b"), ("move", "/d", "/c"))),
               ("write", "/c", 0, "x"), ("bundle", (("folder", "/e"), ("drop", "/e"))), ("folder", "/e"))
        self.check((), row, (), (), (0, 1), (0, 2), (), (4,))
        self.assertEqual(((), (), (0, 1), (0, 1, 2), (), (4,)), needs((), row))
        self.assertEqual((("/b", "file", ""), ("/c", "file", "x"), ("/e", "folder")), end((), row))

    def test_needs_go_on(self):
        row = (("folder", "/a"), ("file", "/a/f", ""), ("move", "/a/f", "/f"), ("write", "/f", 0, "x"))
        self.check((), row, (), (0,), (0, 1), (1, 2))
        self.assertEqual(((), (0,), (0, 1), (0, 1, 2)), needs((), row))

    def test_lost_with(self):
        row = (("folder", "/a"), ("file", "/b", ""), ("file", "/a/f", ""), ("move", "/a/f", "/f"), ("write", "/b", 0, "x"))
        told = [(0, 2, 3), (1, 4), (2, 3), (3,), (4,)]
        self.assertEqual(told, [lost_with((), row, place) for place in range(5)])
        for place in ODD + ["", "0", (0,), (), 5, -1]:
            if not isinstance(place, int) or isinstance(place, bool) or not 0 <= place < 5:
                check_raises(self, BadNumber(), lost_with, (), row, place)
        self.assertEqual((59,), lost_with((), SIXTY, 59))
        check_raises(self, BadNumber(), lost_with, (), SIXTY, 60)

    def test_like_things_as_objects(self):
        chance = some_chance(17)
        for turn in range(250):
            tree, deeds = random_row(chance, chance.randrange(6), chance.randrange(9), SHORT if turn % 2 else WAYS)
            row = Row(tree)
            for deed in deeds:
                row.do(deed)
            self.assertEqual(tuple([tuple(sorted(told)) for told in row.leans]), leans(tree, deeds), (tree, deeds))
            self.assertEqual(tuple([tuple(sorted(told)) for told in needs_of(tree, deeds)]), needs(tree, deeds))


class Pasts(unittest.TestCase):
    def some_rows(self, number):
        chance = some_chance(number)
        return [random_row(chance, chance.randrange(5), chance.randrange(8), SHORT if turn % 2 else WAYS) for turn in range(80)]

    def test_like_all_tuples(self):
        for tree, deeds in self.some_rows(5):
            known = sorted(pasts_of(tree, deeds))
            self.assertEqual(known, pasts(tree, deeds))
            self.assertEqual(len(known), count_pasts(tree, deeds))
            for many in range(len(deeds) + 1):
                for value in combinations(range(len(deeds)), many):
                    self.assertIs(value in known, is_past(tree, deeds, value))

    def test_least_and_greatest(self):
        for tree, deeds in self.some_rows(6):
            known = [set(past) for past in pasts(tree, deeds)]
            for many in range(min(3, len(deeds) + 1)):
                for places in combinations(range(len(deeds)), many):
                    least = set.intersection(*[past for past in known if past >= set(places)])
                    greatest = set.union(*[past for past in known if not past & set(places)])
                    self.assertEqual(tuple(sorted(least)), least_with(tree, deeds, places))
                    self.assertEqual(tuple(sorted(greatest)), greatest_without(tree, deeds, places))

    def test_trees(self):
        for tree, deeds in self.some_rows(7):
            found = {}
            for past in pasts(tree, deeds):
                behind = done_all(tree, tuple([deeds[place] for place in past]))
                self.assertEqual(behind, tree_of(tree, deeds, past))
                found.setdefault(behind, past)
            self.assertEqual(sorted(found), trees(tree, deeds))
            for behind, past in found.items():
                self.assertEqual(past, past_for(tree, deeds, behind))
            self.assertIs(None, past_for(tree, deeds, (("/zzz", "folder"),)))

    def test_unlike_pasts_with_one_tree(self):
        row = (("folder", "/a"), ("drop", "/a"), ("file", "/b", ""))
        self.assertEqual([(), (0,), (0, 1), (0, 1, 2), (0, 2), (2,)], pasts((), row))
        self.assertEqual([(), (("/a", "folder"),), (("/a", "folder"), ("/b", "file", "")), (("/b", "file", ""),)], trees((), row))
        self.assertEqual((), past_for((), row, ()))
        self.assertEqual((0, 1, 2), past_for((), row, (("/b", "file", ""),)))
        self.assertEqual((0, 2), past_for((), row, (("/a", "folder"), ("/b", "file", ""))))

    def test_values_that_are_no_pasts(self):
        row = (("file", "/a", ""), ("write", "/a", 0, "x"), ("file", "/b", ""))
        for value in NO_PLACES + ["", [], [0], (1,), (1, 2), (2, 0), (0, 0), (0, 1, 1), (3,), (-1,), (0, 3), (True,), (0, True),
                                (False,), (None,), ("0",), (0, (1,)), (0, 10 ** 30), deep(5000), {0: 0}, 0]:
            self.assertIs(False, is_past((), row, value))
            check_raises(self, BadPast(), tree_of, (), row, value)
        for value in [(), (0,), (0, 1), (0, 1, 2), (0, 2), (2,)]:
            self.assertIs(True, is_past((), row, value))

    def test_values_that_are_no_places(self):
        row = (("file", "/a", ""), ("write", "/a", 0, "x"), ("file", "/b", ""))
        for ask in (least_with, greatest_without):
            for value in NO_PLACES + ["", [], [0], (2, 0), (0, 0), (3,), (-1,), (True,), (False, 1), ("0",), 0, {0: 0}, (1, None)]:
                check_raises(self, BadPlaces(), ask, (), row, value)
        self.assertEqual([(0, 1), (0, 1, 2), ()], [least_with((), row, places) for places in [(1,), (1, 2), ()]])
        self.assertEqual([(0, 2), (2,), (), (0, 1, 2)], [greatest_without((), row, places) for places in [(1,), (0,), (0, 2), ()]])
        check_raises(self, BadPlaces(), least_with, (), (), (0,))

    def test_just_3000_and_more(self):
        found = pasts((), JUST_3000)
        self.assertEqual(3000, len(found))
        self.assertEqual(sorted(set(found)), found)
        self.assertEqual(3000, count_pasts((), JUST_3000))
        self.assertEqual(3000, len(trees((), JUST_3000)))
        self.assertEqual((), past_for((), JUST_3000, ()))
        self.assertEqual(3001, count_pasts((), MORE_THAN_3000))
        for row in (MORE_THAN_3000, SIXTY, JUST_3000 + (("folder", "/z"),)):
            for ask in (pasts, trees, lambda tree, deeds: past_for(tree, deeds, tree)):
                check_raises(self, TooMany(3000), ask, (), row)
            # These do not need all pasts.
            self.assertIs(True, is_past((), row, (0,)))
            self.assertEqual(end((), row[:1]), tree_of((), row, (0,)))

    def test_many_pasts_are_counted(self):
        self.assertEqual(61, count_pasts((), chains(60)))
        self.assertEqual(1 + 2 ** 59, count_pasts((), (("folder", "/a"),) + tuple([("file", "/a" + deed[1], "") for deed in SIXTY[1:]])))
        self.assertEqual(7 ** 10, count_pasts((), chains(*[6] * 10)))
        # Two folders; files in each of them, in both at once, and in none.
        row = [("folder", "/a"), ("folder", "/b")] + [("file", "/a" + deed[1], "") for deed in SIXTY[:9]]
        row += [("file", "/b" + deed[1], "") for deed in SIXTY[:11]] + list(SIXTY[2:15])
        row += [("bundle", (("file", "/a/x" + letter, ""), ("file", "/b/x" + letter, ""))) for letter in "abcdefg"]
        self.assertEqual(2 ** 13 * (1 + 2 ** 9 + 2 ** 11 + 2 ** 27), count_pasts((), tuple(row)))


class Orders(unittest.TestCase):
    """Which error is raised if several apply."""

    def test_trees_and_deeds_ahead_of_all_else(self):
        for ask in (lost_with, least_with, greatest_without, tree_of, past_for):
            check_raises(self, BadTree(None), ask, None, None, None)
            check_raises(self, BadDeeds(None), ask, (), None, None)
            check_raises(self, BadDeeds(0), ask, (), (("drop", "/a"),), None)
        check_raises(self, BadDeeds(0), is_past, (), (("drop", "/a"),), None)

    def test_too_many_behind_all(self):
        check_raises(self, BadTree(None), past_for, (), SIXTY, None)
        check_raises(self, BadTree(0), past_for, (), SIXTY, (None,))
        check_raises(self, BadTree(1), past_for, (), SIXTY, (("/b", "folder"), ("/a", "folder")))
        check_raises(self, TooMany(3000), past_for, (), SIXTY, ())


if __name__ == "__main__":
    unittest.main()
