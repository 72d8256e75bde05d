"""Points 10 and 11: pages, and the tuples by which they are told."""

import copy
import unittest

from keptanyhow.errors import BadPage, BadTold
from keptanyhow.octets import with_check
from keptanyhow.pages import told_page, written_page
from tests.nested import some_chance
from tests.values import ODD, ODD_TUPLES, deep

TOP = 2 ** 24 - 1
NUMBERS = ODD + ODD_TUPLES + ["", "0", deep(5000)]


def card(thing=1, stamp=2, period=3, length=4, tails=(), some=None):
    return ("card", thing, stamp, period, length, tails, (9,) * (49 - len(tails)) if some is None else some)


# Told tuples; which item; its least and its greatest value.
NUMBERED = [
    (("head", 1, 2, 3, 4), 1, 0, TOP),
    (("head", 1, 2, 3, 4), 2, 1, 24),
    (("head", 1, 2, 3, 4), 3, 0, 200),
    (("head", 1, 2, 3, 4), 4, 0, 2 ** 32),
    (card(), 1, 0, 23),
    (card(), 2, 0, TOP),
    (card(), 3, 0, TOP),
    (card(), 4, 0, 1000),
    (("tail", 1, 2, 3, (9,) * 54), 1, 0, 23),
    (("tail", 1, 2, 3, (9,) * 54), 2, 0, TOP),
    (("tail", 1, 2, 3, (9,) * 54), 3, 0, 59),
    (("data", 1, 2, 3, "hi"), 1, 0, 23),
    (("data", 1, 2, 3, "hi"), 2, 0, TOP),
    (("data", 1, 2, 3, "hi"), 3, 0, 59),
]


def paged(octets):
    """A page that begins with some bytes, with its check."""
    return with_check(tuple(octets) + (0,) * (60 - len(octets)))


class There(unittest.TestCase):
    def check(self, told, octets):
        page = paged(octets)
        self.assertEqual(64, len(page))
        self.assertEqual(page, written_page(told))
        self.assertEqual(told, told_page(page))

    def test_layouts(self):
        self.check(("blank",), ())
        self.assertEqual((0,) * 64, written_page(("blank",)))
        self.check(("head", 0x010203, 4, 5, 0x0060708090), (1, 1, 2, 3, 4, 5, 0, 0x60, 0x70, 0x80, 0x90))
        self.check(("head", 0, 1, 0, 2 ** 32), (1, 0, 0, 0, 1, 0, 1, 0, 0, 0, 0))
        some = tuple(range(100, 147))
        self.check(("card", 7, 0x010203, 0x040506, 0x0301, (249, 0), some),
                   (2, 7, 1, 2, 3, 4, 5, 6, 3, 1, 2, 249, 0) + some)
        self.check(("card", 0, 0, 0, 0, (), (255,) * 49), (2,) + (0,) * 10 + (255,) * 49)
        self.check(("tail", 23, 0x010203, 59, tuple(range(54))), (3, 23, 1, 2, 3, 59) + tuple(range(54)))
        self.check(("data", 5, 0x010203, 6, "A b"), (4, 5, 1, 2, 3, 6, 3, 65, 32, 98))
        self.check(("data", 5, 1, 6, "z" * 50), (4, 5, 0, 0, 1, 6, 50) + (122,) * 50)

    def test_least_and_greatest_numbers(self):
        for told, index, least, greatest in NUMBERED:
            for number in (least, greatest):
                good = told[:index] + (number,) + told[index + 1:]
                self.assertEqual(good, told_page(written_page(good)))
            for number in (least - 1, greatest + 1, -1, 10 ** 30):
                with self.assertRaises(BadTold):
                    written_page(told[:index] + (number,) + told[index + 1:])

    def test_numbers_of_other_kinds(self):
        for told, index, _, _ in NUMBERED:
            for value in NUMBERS:
                if value is True or value is False or not isinstance(value, int):
                    with self.assertRaises(BadTold):
                        written_page(told[:index] + (value,) + told[index + 1:])

    def test_tails(self):
        for tails in ((), (0,), (249,), (3, 2, 1), tuple(range(20)), tuple(range(230, 250))):
            good = card(tails=tails)
            self.assertEqual(good, told_page(written_page(good)))
        for tails in [tuple(range(21)), (250,), (-1,), (True,), (False,), (1, 1), (1, 2, 1), [1], (None,), ("1",), None, 0, "",
                      {1: 2}, ((1,),), (1, [2]), deep(5000)]:
            some = (9,) * (49 - len(tails)) if isinstance(tails, (tuple, list, dict)) else (9,) * 49
            with self.assertRaises(BadTold):
                written_page(("card", 1, 2, 3, 4, tails, some))

    def test_how_many_bytes(self):
        for many in (0, 1, 20):
            tails = tuple(range(many))
            for wrong in (48 - many, 50 - many, 0, 49 + many):
                if wrong != 49 - many:
                    with self.assertRaises(BadTold):
                        written_page(card(tails=tails, some=(9,) * wrong))
        for wrong in (0, 53, 55):
            with self.assertRaises(BadTold):
                written_page(("tail", 1, 2, 3, (9,) * wrong))

    def test_bytes_of_other_kinds(self):
        for byte in (256, -1, True, False, None, "a", (1,), [1]):
            for at in (0, 20, 48):
                some = (9,) * at + (byte,) + (9,) * (48 - at)
                with self.assertRaises(BadTold):
                    written_page(card(some=some))
                with self.assertRaises(BadTold):
                    written_page(("tail", 1, 2, 3, some + (9,) * 5))
        for value in ODD + ODD_TUPLES + ["", "a" * 49, [9] * 49]:
            with self.assertRaises(BadTold):
                written_page(("card", 1, 2, 3, 4, (), value))
            with self.assertRaises(BadTold):
                written_page(("tail", 1, 2, 3, value))
        with self.assertRaises(BadTold):
            written_page(("tail", 1, 2, 3, [9] * 54))

    def test_contents(self):
        for contents in ("a", "a" * 50, " .,:;=>/-+_()!?"):
            good = ("data", 1, 2, 3, contents)
            self.assertEqual(good, told_page(written_page(good)))
        for contents in ["", "a" * 51, "a" * 2000, "\n", "a%", "\u00e9", (97,), deep(5000)] + ODD + ODD_TUPLES:
            with self.assertRaises(BadTold):
                written_page(("data", 1, 2, 3, contents))

    def test_what_tells_no_page(self):
        wrong = ODD + ODD_TUPLES + [
            (), "", "blank", ["blank"], ("blank", 0), ("blank",) * 2, ("bad",), ("Blank",), ("other",), ("",), deep(5000),
            ("head",), ("head", 1, 2, 3), ("head", 1, 2, 3, 4, 5), ["head", 1, 2, 3, 4], ("card",), card()[:6],
            card() + (0,), list(card()), ("tail", 1, 2, 3), ("tail", 1, 2, 3, (9,) * 54, 0), ["tail", 1, 2, 3, (9,) * 54],
            ("data", 1, 2, 3), ("data", 1, 2, 3, "a", "b"), ["data", 1, 2, 3, "a"], (1, 1, 2, 3, 4), (b"blank",),
            written_page(("blank",)), (["blank"],), (("blank",),), (None, 1, 2, 3, 4), (True,), (deep(5000), 1, 2, 3, 4),
        ]
        for value in wrong:
            with self.assertRaises(BadTold):
                written_page(value)

    def test_arguments_stay_as_they_were(self):
        for value in (["blank"], ("card", 1, 2, 3, 4, [5], (9,) * 48), {"head": [1]}):
            before = copy.deepcopy(value)
            with self.assertRaises(BadTold):
                written_page(value)
            with self.assertRaises(BadPage):
                told_page(value)
            self.assertEqual(before, value)


class Back(unittest.TestCase):
    def check_bad(self, octets):
        self.assertEqual(("bad",), told_page(paged(octets)))

    def test_none(self):
        self.assertEqual(("bad",), told_page(None))

    def test_no_pages(self):
        for value in [value for value in ODD if value is not None] + ODD_TUPLES + [
            (), "", "a" * 64, (0,) * 63, (0,) * 65, (0,) * 60, [0] * 64, (0,) * 63 + (256,), (0,) * 63 + (-1,),
            (True,) + (0,) * 63, (0,) * 63 + (False,), (None,) * 64, ((0,) * 64,), (0,) * 63 + ("a",), ("bad",), ("blank",),
            deep(5000), (0,) * 4000,
        ]:
            with self.assertRaises(BadPage):
                told_page(value)

    def test_a_check_that_is_none(self):
        good = written_page(("data", 1, 2, 3, "hi"))
        for at in range(64):
            for more in (1, 128, 255):
                changed = good[:at] + ((good[at] + more) % 256,) + good[at + 1:]
                self.assertEqual(("bad",), told_page(changed))
        self.assertEqual(("bad",), told_page((0,) * 63 + (1,)))
        self.assertEqual(("bad",), told_page((1,) * 64))

    def test_other_first_bytes(self):
        for first in (5, 6, 127, 255):
            self.check_bad((first,))
            self.check_bad((first, 0, 0, 1, 1, 0))

    def test_bytes_that_should_be_0(self):
        for good, first in [
            ((), 1), ((1, 0, 0, 1, 2, 3, 0, 0, 0, 0, 0), 11), ((4, 1, 0, 0, 1, 3, 2, 97, 98), 9),
            ((4, 1, 0, 0, 1, 3, 50) + (97,) * 50, 57),
        ]:
            self.assertNotEqual(("bad",), told_page(paged(good)))
            for at in range(first, 60):
                octets = list(good) + [0] * (60 - len(good))
                octets[at] = 97
                self.check_bad(octets)

    def test_numbers_beyond(self):
        self.check_bad((1, 0, 0, 0, 0, 0))
        self.check_bad((1, 0, 0, 0, 25, 0))
        self.check_bad((1, 0, 0, 0, 1, 201))
        self.check_bad((1, 0, 0, 0, 1, 0, 1, 0, 0, 0, 1))
        self.check_bad((1, 0, 0, 0, 1, 0, 255, 255, 255, 255, 255))
        for first in (2, 3, 4):
            self.check_bad((first, 24, 0, 0, 0, 0, 1, 97))
            self.assertNotEqual(("bad",), told_page(paged((first, 23, 0, 0, 0, 0, first // 4, 97 * (first // 4)))))
        self.check_bad((3, 0, 0, 0, 0, 60))
        self.check_bad((4, 0, 0, 0, 0, 60, 1, 97))

    def test_lengths(self):
        self.assertEqual(("card", 0, 0, 0, 1000, (), (0,) * 49), told_page(paged((2, 0, 0, 0, 0, 0, 0, 0, 3, 232, 0))))
        self.check_bad((2, 0, 0, 0, 0, 0, 0, 0, 3, 233, 0))
        self.check_bad((2, 0, 0, 0, 0, 0, 0, 0, 255, 255, 0))
        self.check_bad((4, 0, 0, 0, 0, 0, 0))
        self.check_bad((4, 0, 0, 0, 0, 0, 0, 97))
        self.check_bad((4, 0, 0, 0, 0, 0, 1, 97, 97))
        self.check_bad((4, 0, 0, 0, 0, 0, 3, 97, 97))
        self.check_bad((4, 0, 0, 0, 0, 0, 51) + (97,) * 51)
        self.check_bad((4, 0, 0, 0, 0, 0, 255) + (97,) * 53)

    def test_tails(self):
        ahead = (2, 0, 0, 0, 0, 0, 0, 0, 0, 0)
        for tails, good in [
            ((), True), ((5,), True), ((5, 4), True), ((5, 5), False), ((5, 4, 5), False), ((250,), False), ((255,), False),
            ((0, 249), True), (tuple(range(20)), True), (tuple(range(21)), False), (tuple(range(49)), False),
        ]:
            page = paged(ahead + (len(tails),) + tails)
            if good:
                self.assertEqual(("card", 0, 0, 0, 0, tails, (0,) * (49 - len(tails))), told_page(page))
            else:
                self.assertEqual(("bad",), told_page(page))
        for many in (2, 49, 50, 51, 255):
            self.check_bad(ahead + (many,))

    def test_codes_of_no_signs(self):
        for code in (0, 10, 37, 64, 91, 128, 255):
            self.check_bad((4, 0, 0, 0, 0, 0, 1, code))
            self.check_bad((4, 0, 0, 0, 0, 0, 2, 97, code))

    def test_whatever_is_told_is_written_so(self):
        chance = some_chance(3)
        told = {}
        for _ in range(6000):
            octets = [chance.choice([0, 0, 0, 1, 2, 97, 98, chance.randrange(256)]) for _ in range(chance.randrange(61))]
            octets[:1] = [chance.randrange(6)]
            if octets[0] == 4:
                many = chance.randrange(52)
                octets[5:] = [chance.randrange(60), many] + [chance.choice([97, 98, 99])] * chance.choice([many, many, 50])
            page = paged(octets[:60])
            word = told_page(page)
            told[word[0]] = told.get(word[0], 0) + 1
            if word != ("bad",):
                self.assertEqual(page, written_page(word))
        self.assertEqual(["bad", "blank", "card", "data", "head", "tail"], sorted(told))


if __name__ == "__main__":
    unittest.main()
