"""Point 1 and the heading keptanyhow/errors.py of the interface."""

import inspect
import unittest

from keptanyhow import errors

PLAIN = """BadWay BadNames BadContents NotFile NotFolder BadDeed NotThere IsThere BadPlace TooLong NotEmpty Inside
BadBytes BadNumber BadPage BadTold BadCard BadTails BadSize BadImage NoHead BadPast BadPlaces BadWish BadGaps BadWays
NotMade UnlikeImages NotText NothingToUndo NothingToRedo""".split()

FIELDS = {
    "BadTree": "index",
    "BadDeeds": "index",
    "BadWrites": "index",
    "BadKeeping": "index",
    "Unsound": "faults",
    "NoRoom": "what",
    "BadPromises": "index",
    "TooMany": "most",
    "BadEvents": "index",
    "InvalidText": "line",
}


class Errors(unittest.TestCase):
    def test_base_class(self):
        self.assertEqual((ValueError,), errors.KeepError.__bases__)

    def test_direct_subclasses(self):
        for name in PLAIN + list(FIELDS):
            with self.subTest(name=name):
                self.assertEqual((errors.KeepError,), getattr(errors, name).__bases__)

    def test_no_others(self):
        found = [name for name, _ in inspect.getmembers(errors, inspect.isclass)]
        self.assertEqual(sorted(PLAIN + list(FIELDS) + ["KeepError"]), sorted(found))
        self.assertEqual({"keptanyhow.errors"}, {getattr(errors, name).__module__ for name in found})

    def test_fields(self):
        for name, field in FIELDS.items():
            for value in (None, 3, "pages", (("head",),)):
                with self.subTest(name=name, value=value):
                    kind = getattr(errors, name)
                    self.assertEqual({field: value}, kind(value).__dict__)
                    self.assertEqual({field: value}, kind(**{field: value}).__dict__)

    def test_plain_ones_have_no_fields(self):
        for name in PLAIN:
            with self.subTest(name=name):
                kind = getattr(errors, name)
                self.assertEqual({}, kind().__dict__)
                self.assertEqual("told", str(kind("told")))

    def test_they_are_caught_as_the_base_class(self):
        for name in PLAIN:
            with self.subTest(name=name), self.assertRaises(errors.KeepError):
                raise getattr(errors, name)("told")


if __name__ == "__main__":
    unittest.main()
