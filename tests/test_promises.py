"""Points 35 to 37: wishes, promises and gaps."""

import copy
import unittest
from itertools import combinations

from keptanyhow.deeds import done_all
from keptanyhow.errors import BadDeeds, BadGaps, BadPromises, BadTree, BadWish, TooMany
from keptanyhow.needs import needs, pasts, tree_of
from keptanyhow.promises import (
    apart_promises, fewest_syncs, first_break, holds, kept_promises, parted_by, surely,
)
from tests.nested import WAYS, some_chance
from tests.refusing import NO_PLACES, NOTHING, check_raises
from tests.rowing import JUST_3000, MORE_THAN_3000, SHORT, SIXTY, chains, random_row
from tests.values import ODD, deep

TREE = (("/a", "folder"), ("/a/f", "file", "hi"), ("/e", "file", ""), ("/g", "same", "/a/f"))
DEEDS = (("file", "/b", "x"), ("write", "/g", 0, "ho"), ("drop", "/a/f"), ("folder", "/c"))


def nots(wish, many):
    """A wish in so many others."""
    return nots(("not", wish), many - 1) if many else wish


class Wishes(unittest.TestCase):
    def check(self, wish, told):
        self.assertIs(told, holds(TREE, wish))
        self.assertIs(not told, holds(TREE, ("not", wish)))

    def test_there(self):
        for way, told in [("/", True), ("/a", True), ("/a/f", True), ("/g", True), ("/b", False), ("/a/a", False),
                          ("/g/x", False), ("/n/x", False), ("/a/f/x", False)]:
            self.check(("there", way), told)
        self.assertIs(True, holds((), ("there", "/")))
        self.assertIs(False, holds((), ("there", "/a")))

    def test_reads(self):
        for way, contents, told in [
            ("/a/f", "hi", True), ("/g", "hi", True), ("/g", "h", False), ("/g", "hi!", False), ("/e", "", True), ("/e", "hi", False),
            ("/a", "", False), ("/", "", False), ("/n", "", False), ("/g/x", "", False), ("/g", "", False), ("/a/f", "HI", False),
        ]:
            self.check(("reads", way, contents), told)

    def test_made_of_others(self):
        so, no = ("there", "/a"), ("there", "/b")
        for one, other in [(so, so), (so, no), (no, so), (no, no)]:
            self.check(("both", one, other), one == so and other == so)
            self.check(("either", one, other), one == so or other == so)
        self.check(("both", ("either", no, so), ("not", ("both", so, no))), True)
        self.check(("not", ("not", ("not", so))), False)

    def test_how_many_within_one_another(self):
        wish = ("there", "/a")
        for many, told in [(0, True), (1, False), (2, True), (3, False), (4, True)]:
            self.assertIs(told, holds(TREE, nots(wish, many)))
        five, six = nots(wish, 4), nots(wish, 5)
        for ask in self.asks():
            check_raises(self, BadWish(), ask, six)
            for word in ("both", "either"):
                check_raises(self, BadWish(), ask, (word, five, wish))
                check_raises(self, BadWish(), ask, (word, wish, five))
        self.assertIs(True, holds(TREE, ("both", nots(wish, 2), ("both", wish, ("either", wish, ("reads", "/g", "hi"))))))
        full = wish
        for _ in range(4):
            full = ("both", full, full)
        self.assertIs(True, holds(TREE, full))
        check_raises(self, BadWish(), holds, TREE, ("both", full, full))

    def asks(self):
        return [lambda wish: holds(TREE, wish), lambda wish: surely(TREE, DEEDS, wish), lambda wish: first_break(TREE, DEEDS, wish),
                lambda wish: holds((), wish), lambda wish: surely((), (), wish), lambda wish: first_break((), SIXTY, wish)]

    def test_wrong_wishes(self):
        good = ("there", "/a")
        wrong = NOTHING + [
            "", (), "there", ("there",), ("there", ""), ("there", "a"), ("there", "/a/"), ("there", "/A"), ("there", None),
            ("there", "/a", "/b"), ("there", ("/a",)), ["there", "/a"], ("reads", "/a"), ("reads", "/a", None), ("reads", "/a", "#"),
            ("reads", "/a", "x" * 2001), ("reads", "a", ""), ("reads", "/a", "", ""), ("reads", "/a", 1), ("not",), ("not", good, good),
            ("not", ()), ("not", "/a"), ("not", ["there", "/a"]), ("both", good), ("both", good, good, good), ("both", good, None),
            ("either", None, good), ("either", good), ("either",), ("Both", good, good), ("neither", good, good), (True, good),
            ("not", True), ("both", True, False), deep(5000), ("not", deep(5000)), {"not": good}, ("file", "/a", "x"),
        ]
        for ask in self.asks():
            for wish in wrong:
                check_raises(self, BadWish(), ask, wish)
                check_raises(self, BadWish(), ask, ("not", wish))
                check_raises(self, BadWish(), ask, ("either", good, wish))
        self.assertIs(False, holds(TREE, ("reads", "/a/f", "x" * 2000)))

    def test_surely_and_first_break(self):
        for wish, told in [
            (("there", "/a"), None), (("there", "/a/f"), (0, 1, 2)), (("not", ("there", "/b")), (0,)), (("reads", "/g", "hi"), (0, 1)),
            (("there", "/b"), ()), (("either", ("there", "/a/f"), ("reads", "/g", "ho")), None),
            (("either", ("reads", "/g", "hi"), ("there", "/b")), (1,)), (("not", ("both", ("there", "/c"), ("there", "/b"))), (0, 1, 2, 3)),
            (("not", ("there", "/c")), (0, 1, 2, 3)), (("either", ("there", "/b"), ("not", ("there", "/c"))), (1, 2, 3)),
        ]:
            with self.subTest(wish=wish):
                self.assertEqual(told, first_break(TREE, DEEDS, wish))
                self.assertIs(told is None, surely(TREE, DEEDS, wish))

    def test_rows_without_deeds(self):
        self.assertIs(True, surely(TREE, (), ("there", "/g")))
        self.assertIs(None, first_break(TREE, (), ("there", "/g")))
        self.assertIs(False, surely(TREE, (), ("there", "/b")))
        self.assertEqual((), first_break(TREE, (), ("there", "/b")))

    def test_like_all_pasts(self):
        chance = some_chance(41)
        for turn in range(120):
            tree, deeds = random_row(chance, chance.randrange(4), chance.randrange(7), SHORT if turn % 2 else WAYS)
            parts = [("there", chance.choice(WAYS)), ("reads", chance.choice(SHORT), ""), ("there", chance.choice(SHORT))]
            wish = chance.choice([("either", *parts[:2]), ("both", *parts[1:]), ("not", parts[0]), ("not", ("both", *parts[::2]))])
            broken = [past for past in pasts(tree, deeds) if not holds(tree_of(tree, deeds, past), wish)]
            self.assertEqual(broken[0] if broken else None, first_break(tree, deeds, wish))
            self.assertIs(not broken, surely(tree, deeds, wish))

    def test_too_many_pasts(self):
        wish = ("there", "/a")
        self.assertEqual((), first_break((), JUST_3000, wish))
        self.assertIs(True, surely((), JUST_3000, ("either", wish, ("not", ("reads", "/a", "x")))))
        for row in (MORE_THAN_3000, SIXTY):
            for ask in (surely, first_break):
                check_raises(self, TooMany(3000), ask, (), row, wish)
                check_raises(self, TooMany(3000), ask, (), row, ("there", "/"))
                check_raises(self, BadWish(), ask, (), row, None)

    def test_order_of_errors(self):
        for ask in (surely, first_break):
            check_raises(self, BadTree(None), ask, None, None, None)
            check_raises(self, BadDeeds(None), ask, (), None, None)
            check_raises(self, BadDeeds(0), ask, (), (("drop", "/a"),), None)
            check_raises(self, BadDeeds(1), ask, (), (("folder", "/a"), ("folder", "/a")), ("there",))
        for tree in NOTHING:
            check_raises(self, BadTree(0 if isinstance(tree, tuple) else None), holds, tree, None)
        check_raises(self, BadTree(1), holds, (TREE[0], TREE[0]), ("there", "/a"))


class Promises(unittest.TestCase):
    ASKS = [kept_promises, fewest_syncs, apart_promises]

    def gaps_of(self, promise):
        return set(range(promise[0], promise[1]))

    def fewest_by_trial(self, promises, many):
        """The least of the fewest gaps by trying all."""
        for count in range(many + 1):
            for gaps in combinations(range(many), count):
                if all(self.gaps_of(promise) & set(gaps) for promise in promises):
                    return gaps

    def apart_by_trial(self, places, promises, count):
        """The least of so many places of promises that have no gap in common, by trying all."""
        for taken in combinations(places, count):
            if all(not self.gaps_of(promises[one]) & self.gaps_of(promises[other]) for one, other in combinations(taken, 2)):
                return taken

    def test_by_trial(self):
        chance = some_chance(52)
        sizes = []
        for turn in range(150):
            tree, deeds = random_row(chance, chance.randrange(4), chance.randrange(2, 9), SHORT if turn % 3 else WAYS)
            pairs = list(combinations(range(len(deeds)), 2))
            promises = tuple([chance.choice(pairs) for _ in range(chance.randrange(9))])
            kept = tuple([one in needs(tree, deeds)[other] for one, other in promises])
            left = [place for place in range(len(promises)) if not kept[place]]
            fewest = self.fewest_by_trial([promises[place] for place in left], len(deeds))
            self.assertEqual(kept, kept_promises(tree, deeds, promises))
            self.assertEqual(fewest, fewest_syncs(tree, deeds, promises))
            self.assertEqual(self.apart_by_trial(left, promises, len(fewest)), apart_promises(tree, deeds, promises))
            sizes.append(len(fewest))
        self.assertGreater(max(sizes), 3)

    def test_no_promises(self):
        for tree, deeds in [((), ()), (TREE, DEEDS), ((), SIXTY)]:
            self.assertEqual([(), (), ()], [ask(tree, deeds, ()) for ask in self.ASKS])

    def test_kept_by_needs(self):
        row = (("folder", "/a"), ("file", "/b", ""), ("file", "/a/f", ""), ("move", "/b", "/a/g"), ("write", "/a/f", 0, "x"))
        promises = ((0, 2), (0, 3), (1, 3), (0, 4), (2, 4))
        self.assertEqual([(True,) * 5, (), ()], [ask((), row, promises) for ask in self.ASKS])
        promises = ((0, 1), (0, 2), (1, 2), (2, 3), (3, 4), (1, 4))
        self.assertEqual((False, True, False, False, False, False), kept_promises((), row, promises))
        self.assertEqual((0, 1, 2, 3), fewest_syncs((), row, promises))
        self.assertEqual((0, 2, 3, 4), apart_promises((), row, promises))

    def test_gaps_in_common(self):
        row = SIXTY[:10]
        for promises, gaps, apart in [
            (((0, 9), (2, 5), (4, 7)), (4,), (0,)),
            (((0, 3), (3, 6), (6, 9)), (0, 3, 6), (0, 1, 2)),
            (((0, 4), (3, 6), (6, 9)), (3, 6), (0, 2)),
            (((0, 4), (3, 6), (5, 9)), (0, 5), (0, 2)),
            (((6, 9), (3, 6), (0, 4)), (3, 6), (0, 1)),
            (((0, 9), (0, 1), (8, 9)), (0, 8), (1, 2)),
            (((0, 1), (0, 1), (0, 2)), (0,), (0,)),
            (((0, 1), (1, 2)), (0, 1), (0, 1)),
            (((8, 9),), (8,), (0,)),
            (((2, 9), (1, 8), (0, 7)), (2,), (0,)),
        ]:
            with self.subTest(promises=promises):
                self.assertEqual((False,) * len(promises), kept_promises((), row, promises))
                self.assertEqual(gaps, fewest_syncs((), row, promises))
                self.assertEqual(apart, apart_promises((), row, promises))

    def test_syncs_keep_them(self):
        """Whether promises hold of all that can come up between syncs in the fewest gaps."""
        chance = some_chance(3)
        for _ in range(40):
            tree, deeds = random_row(chance, 2, chance.randrange(2, 7), SHORT)
            pairs = list(combinations(range(len(deeds)), 2))
            promises = tuple([chance.choice(pairs) for _ in range(4)])
            parts = parted_by(deeds, fewest_syncs(tree, deeds, promises))
            self.assertEqual(deeds, sum(parts, ()))
            ahead = 0
            for part in parts:
                for past in pasts(done_all(tree, deeds[:ahead]), part):
                    seen = list(range(ahead)) + [ahead + place for place in past]
                    self.assertEqual([], [one for one in promises if one[1] in seen and one[0] not in seen])
                ahead += len(part)

    def test_how_many(self):
        row = SIXTY[:22]
        twenty = tuple([(place, place + 1) for place in range(20)])
        self.assertEqual([(False,) * 20, tuple(range(20)), tuple(range(20))], [ask((), row, twenty) for ask in self.ASKS])
        self.assertEqual((False,) * 20, kept_promises((), row, ((0, 1),) * 20))
        for ask in self.ASKS:
            check_raises(self, BadPromises(None), ask, (), row, twenty + ((20, 21),))
            check_raises(self, BadPromises(None), ask, (), row, (None,) * 21)
        self.assertEqual((True,), kept_promises((), chains(60), ((0, 59),)))
        self.assertEqual((0,), fewest_syncs((), SIXTY, ((0, 59),)))
        self.assertEqual((58,), fewest_syncs((), SIXTY, ((58, 59),)))

    def test_wrong_promises(self):
        for ask in self.ASKS:
            for value in ODD + ["", "01", [(0, 1)], [], {(0, 1): 1}]:
                check_raises(self, BadPromises(None), ask, TREE, DEEDS, value)
            for item in NOTHING + ["", (), (0,), (1, 0), (0, 0), (0, 4), (-1, 1), (False, 1), (0, True), (0, 1, 2), [0, 1], (0, "1"),
                                   (None, 1), (0, (1,)), "01", {0: 1}, (0, 10 ** 30)]:
                check_raises(self, BadPromises(0), ask, TREE, DEEDS, (item,))
                check_raises(self, BadPromises(2), ask, TREE, DEEDS, ((0, 1), (0, 3), item, None))
            check_raises(self, BadPromises(0), ask, (), (), ((0, 1),))
            check_raises(self, BadPromises(0), ask, (), DEEDS[:1], ((0, 0),))

    def test_order_of_errors(self):
        for ask in self.ASKS:
            for tree in NOTHING:
                check_raises(self, BadTree(0 if isinstance(tree, tuple) else None), ask, tree, None, None)
            for deeds in ODD + [SIXTY + DEEDS, list(DEEDS)]:
                check_raises(self, BadDeeds(None), ask, TREE, deeds, None)
            check_raises(self, BadDeeds(0), ask, TREE, (None,), None)
            check_raises(self, BadDeeds(4), ask, TREE, DEEDS + (("folder", "/c"),), None)

    def test_arguments_stay_as_they_were(self):
        told = (copy.deepcopy(TREE), copy.deepcopy(DEEDS), ((0, 2), (1, 3)))
        for ask in self.ASKS:
            ask(*told)
        surely(*told[:2], ("there", "/a"))
        parted_by(told[1], (1,))
        self.assertEqual((TREE, DEEDS, ((0, 2), (1, 3))), told)


class Gaps(unittest.TestCase):
    def test_parts(self):
        one, two, three, four = DEEDS
        for gaps, parts in [
            ((), (DEEDS,)), ((0,), ((one,), (two, three, four))), ((3,), (DEEDS, ())), ((1,), ((one, two), (three, four))),
            ((0, 1, 2, 3), ((one,), (two,), (three,), (four,), ())), ((0, 3), ((one,), (two, three, four), ())),
            ((0, 2), ((one,), (two, three), (four,))),
        ]:
            self.assertEqual(parts, parted_by(DEEDS, gaps))
        self.assertEqual(((),), parted_by((), ()))
        self.assertEqual((SIXTY, ()), parted_by(SIXTY, (59,)))

    def test_deeds_need_not_be_let_by(self):
        deeds = (("drop", "/a"), ("folder", "/b/c"))
        self.assertEqual((deeds[:1], deeds[1:]), parted_by(deeds, (0,)))

    def test_wrong_gaps(self):
        for value in NO_PLACES + ["", [], [0], (4,), (-1,), (1, 0), (0, 0), (0, True), (None,), ("0",), 0, {0: 0}, (0, 1, 1),
                                  (0, 10 ** 30), ((0,),)]:
            check_raises(self, BadGaps(), parted_by, DEEDS, value)
        check_raises(self, BadGaps(), parted_by, (), (0,))
        check_raises(self, BadGaps(), parted_by, SIXTY, (60,))

    def test_wrong_deeds(self):
        for value in ODD + ["", list(DEEDS), SIXTY + DEEDS[:1], (None,) * 61]:
            check_raises(self, BadDeeds(None), parted_by, value, None)
        for value in NOTHING + [(), "", ("drop", "/"), ("sync",)]:
            check_raises(self, BadDeeds(0), parted_by, (value,), None)
            check_raises(self, BadDeeds(3), parted_by, DEEDS[:3] + (value,), (0,))


if __name__ == "__main__":
    unittest.main()
