"""Point 1, by points 16 to 29: what comes up of every keeping of a few deeds is the tree of whole deeds of these, with all
that they leaned on; each such choice of deeds comes up; and what was synced is never lost."""

import unittest
from itertools import product

from keptanyhow.deeds import done_all
from keptanyhow.drives import Drive
from keptanyhow.images import count_keepings, kept, new_image, times_written
from keptanyhow.scans import cards_up, faults, settled, settling, tree_up
from tests.leaning import needs_of, pasts_of
from tests.nested import random_let_by, some_chance

SIZE = (9, 40)
SHORT = ["/a", "/b", "/a/a", "/a/b", "/b/a", "/a/a/a"]
# What was synced, and the deeds since.
ROWS = [
    ((), (("file", "/a", "x"), ("file", "/b", "y"), ("move", "/a", "/b"))),
    ((), (("folder", "/a"), ("file", "/a/f", "x"), ("move", "/a/f", "/f"), ("drop", "/a"))),
    ((("file", "/f", "x"),), (("write", "/f", 0, "y"), ("write", "/f", 1, "z"), ("folder", "/a"))),
    ((("file", "/f", "x" * 120),), (("write", "/f", 60, "y"), ("cut", "/f", 10))),
    ((("file", "/f", "x"), ("file", "/g", "y")), (("move", "/f", "/h"), ("move", "/g", "/f"), ("move", "/h", "/g"))),
    ((("file", "/f", "x"), ("file", "/g", "y")), (("bundle", (("move", "/f", "/h"), ("move", "/g", "/f"), ("move", "/h", "/g"))),)),
    ((("folder", "/a"), ("folder", "/b")), (("move", "/a", "/b/a"), ("folder", "/a"), ("move", "/b", "/a/b"))),
    ((("folder", "/a"), ("file", "/a/f", "x")), (("drop", "/a/f"), ("drop", "/a"), ("file", "/a", "y"))),
    ((("file", "/f", "x"),), (("link", "/f", "/g"), ("drop", "/f"), ("file", "/f", "z"), ("write", "/g", 0, "w"))),
    ((("file", "/f", "x"),), (("bundle", (("folder", "/a"), ("move", "/f", "/a/f"))), ("folder", "/f"), ("folder", "/b"))),
    ((("folder", "/a"),), (("drop", "/a"), ("folder", "/a"), ("drop", "/a"), ("folder", "/a"))),
    ((), (("bundle", (("folder", "/a"), ("file", "/a/f", ""), ("drop", "/a/f"), ("drop", "/a"))), ("folder", "/a"))),
]


class Pasts(unittest.TestCase):
    def begun(self, synced):
        drive = Drive(new_image(SIZE))
        for deed in synced:
            drive.do(deed)
        drive.sync()
        return drive

    def done(self, drive, deeds):
        """Do deeds; returns for each its stamp and the list of the things that it wrote."""
        found = []
        for deed in deeds:
            drive.do(deed)
            found.append((drive.stamp, [thing for thing, card in enumerate(drive.cards) if card[0] == drive.stamp]))
        return found

    def past_up(self, image, wrote):
        """The places of the deeds of which nothing is lacking in what comes up."""
        up = cards_up(image)
        told = [all([up[thing][0] >= stamp for thing in things]) for stamp, things in wrote]
        return tuple([place for place, whole in enumerate(told) if whole])

    def check(self, image, tree, deeds, wrote):
        """Whether the tree of a past comes up of an image; returns this past."""
        self.assertEqual((), faults(image))
        past = self.past_up(image, wrote)
        needs = needs_of(tree, deeds)
        for place in past:
            self.assertLessEqual(needs[place], set(past))
        self.assertEqual(done_all(tree, tuple([deeds[place] for place in past])), tree_up(image))
        return past

    def check_all(self, drive, deeds):
        """Whether just the trees of all pasts come up of all keepings."""
        tree, image = drive.tree, drive.image
        wrote = self.done(drive, deeds)
        keepings = product(*[range(-1, many + 1) for many in times_written(drive.writes)])
        found = {self.check(kept(image, drive.writes, keeping), tree, deeds, wrote) for keeping in keepings}
        self.assertEqual(pasts_of(tree, deeds), sorted(found, key=lambda past: (len(past), past)))

    def check_some(self, drive, deeds, chance):
        """Whether the tree of a past comes up of some keepings."""
        tree, image = drive.tree, drive.image
        wrote = self.done(drive, deeds)
        for _ in range(25):
            keeping = [many if chance.randrange(4) else chance.randrange(-1, many + 1) for many in times_written(drive.writes)]
            left = kept(image, drive.writes, tuple(keeping))
            self.check(left, tree, deeds, wrote)
            # Power goes again while the image is settled.
            blanks, _ = settling(left)
            again = [chance.randrange(-1, many + 1) for many in times_written(blanks)]
            self.assertEqual(tree_up(left), tree_up(kept(left, blanks, tuple(again))))
            self.assertEqual(tree_up(left), tree_up(settled(kept(left, blanks, tuple(again)))))

    def test_rows(self):
        for synced, deeds in ROWS:
            with self.subTest(synced=synced, deeds=deeds):
                self.check_all(self.begun(synced), deeds)

    def test_pasts_that_are_told(self):
        self.assertEqual([(), (0,), (1,), (0, 1), (0, 1, 2)], pasts_of((), ROWS[0][1]))
        self.assertEqual([(), (0,), (0, 1), (0, 1, 2), (0, 1, 2, 3)], pasts_of((), ROWS[1][1]))

    def test_random_rows(self):
        chance = some_chance(31)
        whole = 0
        for _ in range(70):
            drive = self.begun(())
            for _ in range(chance.randrange(6)):
                drive.do(random_let_by(chance, drive.tree, SHORT))
            drive.sync()
            trial = Drive(drive.image)
            deeds = []
            for _ in range(chance.randrange(1, 5)):
                deed = random_let_by(chance, trial.tree, SHORT)
                trial.do(deed)
                deeds.append(deed)
            if count_keepings(trial.writes) <= 150:
                whole += 1
                self.check_all(drive, tuple(deeds))
            else:
                self.check_some(drive, tuple(deeds), chance)
        self.assertGreater(whole, 15)

    def test_life_after_life(self):
        chance = some_chance(8)
        drive = Drive(new_image(SIZE))
        for _ in range(60):
            tree, image = drive.tree, drive.image
            deeds = []
            for _ in range(chance.randrange(4)):
                deed = random_let_by(chance, drive.tree, SHORT)
                if drive.room[0] >= 6 or deed[0] not in ("bundle", "file", "folder"):
                    if drive.room[1] >= 20 or deed[0] not in ("bundle", "file", "write"):
                        drive.do(deed)
                        deeds.append(deed)
            trees = [done_all(tree, tuple([deeds[place] for place in past])) for past in pasts_of(tree, tuple(deeds))]
            keeping = tuple([chance.randrange(-1, many + 1) for many in times_written(drive.writes)])
            drive.cut(keeping)
            self.assertIn(drive.tree, trees)
            if chance.randrange(3) == 0:
                drive.sync()
        self.assertEqual(drive.tree, tree_up(drive.image))


if __name__ == "__main__":
    unittest.main()
