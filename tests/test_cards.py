"""Points 12 to 14: cards, their bytes and their pages."""

import copy
import unittest

from keptanyhow.cards import bytes_card, card_bytes, card_pages, is_card, tails_needed
from keptanyhow.errors import BadBytes, BadCard, BadNumber, BadTails
from keptanyhow.pages import told_page, written_page
from tests.nested import some_chance
from tests.values import ODD, ODD_TUPLES, deep

TOP = 2 ** 24 - 1
FOLDER = (1, 2, "folder", ((3, "ab"),), 0, (), ((4, 5),))
FILE = (7, 8, "file", ((0, "f"), (2, "g")), 51, ((9, 1), (10, 2)), ((1, 3), (2, 4)))
NONE = (1, 1, "none", (), 0, (), ())
EIGHT = tuple([(number, "abcdefgh") for number in range(8)])
LARGEST = (TOP, TOP, "file", EIGHT, 2000, ((249, TOP),) * 40, tuple([(number, TOP) for number in range(23)]))
NO_NUMBERS = [value for value in ODD if not isinstance(value, int) or isinstance(value, bool)] + ODD_TUPLES + [
    "", "1", -1, 10 ** 30, deep(5000)]


def but(card, index, value):
    """A card with another item."""
    return card[:index] + (value,) + card[index + 1:]


def needing(many, name=""):
    """A card with so many needs, of kind "none" or a folder of a name."""
    needs = tuple([(number, number + 1) for number in range(many)])
    return (1, 1, "folder" if name else "none", ((0, name),) if name else (), 0, (), needs)


GOOD = [
    FOLDER, FILE, NONE, LARGEST, but(FOLDER, 3, ()), but(FILE, 3, ((0, "a"),)), but(FILE, 3, EIGHT),
    but(FILE, 3, ((0, "a"), (0, "b"))), but(FILE, 3, ((0, "b"), (1, "a"))), but(FOLDER, 3, ((23, "zzzzzzzz"),)),
    but(but(FILE, 4, 0), 5, ()), but(but(FILE, 4, 1), 5, ((0, 0),)), but(but(FILE, 4, 50), 5, ((0, 0),)),
    but(but(FILE, 4, 100), 5, ((1, 1), (1, 1))), but(but(FILE, 4, 2000), 5, ((5, 5),) * 40), but(NONE, 6, ((23, TOP),)),
    needing(23), needing(0), but(NONE, 0, 0), but(NONE, 0, TOP), but(NONE, 1, 0), but(NONE, 1, TOP),
]
BAD = [
    (), NONE[:6], NONE + (0,), list(NONE), "none", {}, but(NONE, 2, "other"), but(NONE, 2, "None"), but(NONE, 2, ""),
    but(NONE, 3, ((0, "a"),)), but(FOLDER, 3, ((0, "a"), (0, "b"))), but(FILE, 3, ()), but(FILE, 3, EIGHT + ((9, "a"),)),
    but(FOLDER, 3, ((24, "a"),)), but(FOLDER, 3, ((-1, "a"),)), but(FOLDER, 3, ((True, "a"),)), but(FOLDER, 3, ((0, ""),)),
    but(FOLDER, 3, ((0, "A"),)), but(FOLDER, 3, ((0, "abcdefghi"),)), but(FOLDER, 3, ((0, "/a"),)), but(FOLDER, 3, ((0,),)),
    but(FOLDER, 3, ((0, "a", "b"),)), but(FOLDER, 3, ([0, "a"],)), but(FOLDER, 3, [(0, "a")]), but(FOLDER, 3, (0, "a")),
    but(FOLDER, 3, (("a", 0),)), but(FILE, 3, ((0, "b"), (0, "a"))), but(FILE, 3, ((1, "a"), (0, "b"))),
    but(FILE, 3, ((0, "a"), (0, "a"))), but(FILE, 3, ((0, "a"), (2, "a"), (1, "a"))),
    but(NONE, 4, 1), but(FOLDER, 4, 1), but(FILE, 4, 50), but(FILE, 4, 101), but(FILE, 4, 2001), but(FILE, 4, -1),
    but(NONE, 4, -1), but(FOLDER, 4, -1), but(but(FILE, 4, -1), 5, ()), but(FILE, 4, True), but(NONE, 4, False), but(NONE, 4, None), but(but(FILE, 4, 2001), 5, ((5, 5),) * 41),
    but(NONE, 5, ((0, 0),)), but(FOLDER, 5, ((0, 0),)), but(FILE, 5, ()), but(FILE, 5, ((9, 1),)),
    but(FILE, 5, ((9, 1), (10, 2), (11, 3))), but(FILE, 5, ((9, 1), (250, 2))), but(FILE, 5, ((9, 1), (-1, 2))),
    but(FILE, 5, ((9, 1), (10, TOP + 1))), but(FILE, 5, ((9, 1), (10, -1))), but(FILE, 5, ((9, 1), (10,))),
    but(FILE, 5, ((9, 1), (True, 2))), but(FILE, 5, ((9, 1), (10, False))), but(FILE, 5, ((9, 1), [10, 2])),
    but(FILE, 5, [(9, 1), (10, 2)]), but(FILE, 5, (9, 1)), but(FILE, 5, ((9, 1), (10, 2, 3))),
    but(NONE, 6, ((24, 1),)), but(NONE, 6, ((-1, 1),)), but(NONE, 6, ((1, TOP + 1),)), but(NONE, 6, ((1, -1),)),
    but(NONE, 6, ((True, 1),)), but(NONE, 6, ((1, True),)), but(NONE, 6, ((1,),)), but(NONE, 6, ((1, 2, 3),)),
    but(NONE, 6, ([1, 2],)), but(NONE, 6, [(1, 2)]), but(NONE, 6, (1, 2)), but(NONE, 6, ((2, 1), (1, 2))),
    but(NONE, 6, ((1, 1), (1, 2))), but(NONE, 6, ((1, 1), (1, 1))), but(NONE, 6, ((1, 2), (1, 1))),
    but(NONE, 6, tuple([(number, 1) for number in range(24)])),
]


class Cards(unittest.TestCase):
    def check_bad(self, value):
        self.assertIs(False, is_card(value))
        for ask in (card_bytes, tails_needed):
            with self.assertRaises(BadCard):
                ask(value)
        for tails in ((), None, (1, 2, 3)):
            with self.assertRaises(BadCard):
                card_pages(1, value, tails)

    def test_cards(self):
        for card in GOOD:
            self.assertIs(True, is_card(card))

    def test_what_is_none(self):
        for value in BAD:
            with self.subTest(value=value):
                self.check_bad(value)

    def test_other_kinds(self):
        for value in ODD + ODD_TUPLES + [deep(5000)]:
            self.check_bad(value)
            for card in (FOLDER, FILE, NONE):
                for index in range(7):
                    # Small integers can stand as stamps, periods and lengths, and only there.
                    if isinstance(value, int) and not isinstance(value, bool) and index in (0, 1, 4):
                        continue
                    self.check_bad(but(card, index, value))
                    for at in range(len(card[index]) if isinstance(card[index], tuple) else 0):
                        self.check_bad(but(card, index, but(card[index], at, value)))

    def test_stamps_and_periods(self):
        for index in (0, 1):
            for value in NO_NUMBERS + [TOP + 1]:
                self.check_bad(but(FOLDER, index, value))

    def test_arguments_stay_as_they_were(self):
        for value in (list(FILE), but(FILE, 3, [(0, "f")]), {"a": [1]}):
            before = copy.deepcopy(value)
            self.check_bad(value)
            self.assertEqual(before, value)


class Bytes(unittest.TestCase):
    def test_layout(self):
        self.assertEqual((0, 0, 0, 0, 0), card_bytes(NONE))
        self.assertEqual((1, 1, 3, 2, 97, 98, 0, 0, 1, 4, 0, 0, 5), card_bytes(FOLDER))
        self.assertEqual(
            (2, 2, 0, 1, 102, 2, 1, 103, 0, 51, 9, 0, 0, 1, 10, 0, 0, 2, 2, 1, 0, 0, 3, 2, 0, 0, 4), card_bytes(FILE))
        self.assertEqual(1 + 1 + 80 + 2 + 160 + 1 + 92, len(card_bytes(LARGEST)))
        self.assertEqual((7, 208), card_bytes(LARGEST)[82:84])
        self.assertEqual((1, 1, 0, 1, 122, 0, 0, 0), card_bytes((5, 6, "folder", ((0, "z"),), 0, (), ())))

    def test_there_and_back(self):
        for card in GOOD:
            self.assertEqual(card, bytes_card(card[0], card[1], card_bytes(card)))
            self.assertEqual(but(card, 0, 77), bytes_card(77, card[1], card_bytes(card)))
            self.assertEqual(but(card, 1, 78), bytes_card(card[0], 78, card_bytes(card)))

    def test_bytes_too_few_or_too_many(self):
        for card in GOOD:
            some = card_bytes(card)
            for wrong in [some[:-1], some[:-2], some[1:], some + (0,), some + some, some + (0,) * 100, ()]:
                self.assertIs(None, bytes_card(1, 1, wrong))

    def test_bytes_of_no_card(self):
        for some in [
            (), (0,), (0, 0, 0, 0), (3, 0, 0, 0, 0), (255, 0, 0, 0, 0), (0, 0, 0, 1, 0), (0, 0, 0, 1, 5, 0, 0, 0, 0),
            (0, 1, 0, 1, 97, 0, 0, 0), (1, 1, 24, 1, 97, 0, 0, 0), (1, 1, 0, 0, 0, 0, 0), (1, 1, 0, 1, 65, 0, 0, 0),
            (1, 1, 0, 1, 200, 0, 0, 0), (1, 1, 0, 9) + (97,) * 9 + (0, 0, 0), (1, 2, 0, 1, 97, 0, 1, 98, 0, 0, 0),
            (2, 0, 0, 0, 0), (2, 2, 0, 1, 98, 0, 1, 97, 0, 0, 0), (2, 2, 0, 1, 97, 0, 1, 97, 0, 0, 0),
            (2, 1, 0, 1, 97, 7, 209) + (1, 0, 0, 1) * 41 + (0,), (2, 1, 0, 1, 97, 0, 1, 250, 0, 0, 1, 0),
            (2, 1, 0, 1, 97, 0, 51, 1, 0, 0, 1, 0), (0, 0, 0, 0, 1, 24, 0, 0, 0), (0, 0, 0, 0, 2, 1, 0, 0, 0, 1, 0, 0, 1),
            (0, 0, 0, 0, 2, 2, 0, 0, 0, 1, 0, 0, 0), (0, 0, 0, 0, 255), (255,) * 4000, (2,) + (255,) * 3999,
            (0, 0, 0, 0, 24) + tuple([byte for thing in range(24) for byte in (thing, 0, 0, 1)]),
        ]:
            self.assertIs(None, bytes_card(1, 1, some))
        self.assertIsNot(None, bytes_card(1, 1, (2, 1, 0, 1, 97, 7, 208) + (1, 0, 0, 1) * 40 + (0,)))

    def test_whatever_is_read_has_just_these_bytes(self):
        chance = some_chance(4)
        for _ in range(4000):
            some = list(card_bytes(chance.choice(GOOD)))
            for at in chance.sample(range(len(some)), 1):
                some[at] = chance.randrange(256)
            card = bytes_card(3, 4, tuple(some))
            if card is not None:
                self.assertIs(True, is_card(card))
                self.assertEqual(tuple(some), card_bytes(card))

    def test_wrong_arguments(self):
        some = card_bytes(NONE)
        for value in NO_NUMBERS + [TOP + 1]:
            for more in (some, None):
                with self.assertRaises(BadNumber):
                    bytes_card(value, 1, more)
                with self.assertRaises(BadNumber):
                    bytes_card(1, value, more)
        for value in ODD + ODD_TUPLES + ["", [0] * 5, (0,) * 4001, (256,), (-1,), (0, True), (None,)]:
            if value not in ((0,), (1,)):
                with self.assertRaises(BadBytes):
                    bytes_card(1, 1, value)
        self.assertIs(None, bytes_card(0, TOP, (0,) * 4000))


class Pages(unittest.TestCase):
    def test_tails_needed(self):
        for card, many, tails in [
            (NONE, 5, 0), (needing(11), 49, 0), (needing(10, "abc"), 50, 1), (needing(23, "ab"), 101, 1),
            (needing(23, "abc"), 102, 1), (needing(23, "abcd"), 103, 2), (LARGEST, 337, 6),
        ]:
            self.assertEqual(many, len(card_bytes(card)))
            self.assertEqual(tails, tails_needed(card))
        for many in range(1, 41):
            card = (1, 1, "file", ((0, "ab"),), 50 * many, ((100, 1),) * many, ())
            count = tails_needed(card)
            self.assertGreaterEqual(49 - count + 54 * count, 9 + 4 * many)
            if count > 0:
                self.assertLess(50 - count + 54 * (count - 1), 9 + 4 * many)

    def test_without_tails(self):
        self.assertEqual(
            (written_page(("card", 5, 1, 2, 13, (), card_bytes(FOLDER) + (0,) * 36)),), card_pages(5, FOLDER, ()))
        card = needing(11)
        self.assertEqual((written_page(("card", 0, 1, 1, 49, (), card_bytes(card))),), card_pages(0, card, ()))

    def test_with_a_tail(self):
        card = needing(10, "abc")
        some = card_bytes(card)
        self.assertEqual((
            written_page(("card", 23, 1, 1, 50, (77,), some[:48])),
            written_page(("tail", 23, 1, 0, some[48:] + (0,) * 52)),
        ), card_pages(23, card, (77,)))

    def test_with_many_tails(self):
        some = card_bytes(LARGEST)
        tails = (249, 0, 248, 1, 9, 5)
        pages = card_pages(3, but(LARGEST, 0, 77), tails)
        self.assertEqual(7, len(pages))
        self.assertEqual(("card", 3, 77, TOP, 337, tails, some[:43]), told_page(pages[0]))
        for index in range(6):
            piece = some[43 + 54 * index:][:54]
            told = ("tail", 3, 77, index, piece + (0,) * (54 - len(piece)))
            self.assertEqual(told, told_page(pages[index + 1]))

    def test_wrong_tails(self):
        two = needing(23, "abcd")
        self.assertEqual(3, len(card_pages(1, two, (0, 249))))
        for tails in [(), (1,), (1, 2, 3), (1, 1), (1, 250), (-1, 1), (True, 2), (2, False), [1, 2], (1, None), "12", {1: 2, 3: 4},
                      None, 2, (1, (2,)), (1, "2"), ((1, 2),), deep(5000)] + ODD + ODD_TUPLES:
            with self.assertRaises(BadTails):
                card_pages(1, two, tails)
        for tails in [(1,), [], None, "", {}, 0, (1, 2), deep(5000)]:
            with self.assertRaises(BadTails):
                card_pages(1, NONE, tails)

    def test_wrong_things(self):
        for value in NO_NUMBERS + [24]:
            for card, tails in [(NONE, ()), (NONE, (1,)), (None, ()), (None, None)]:
                with self.assertRaises(BadNumber):
                    card_pages(value, card, tails)


if __name__ == "__main__":
    unittest.main()
