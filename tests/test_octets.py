"""Points 8 and 9: bytes, numbers, texts and checks."""

import copy
import unittest

from keptanyhow.errors import BadBytes, BadContents, BadNumber
from keptanyhow.octets import bytes_number, bytes_text, check, number_bytes, text_bytes, with_check, without_check
from tests.nested import some_chance
from tests.values import ODD, ODD_TUPLES, deep

SIGNS = "abcdefghijklmnopqrstuvwxyzABCDEFGHIJKLMNOPQRSTUVWXYZ0123456789 .,:;=>/-+_()!?"
NO_INTEGERS = [value for value in ODD if not isinstance(value, int) or isinstance(value, bool)]
ITEMS = NO_INTEGERS + [-1, 256, 10 ** 30, -(10 ** 30), "a", "0", (1,), deep(5000)]
WITH_BYTES = [bytes_number, bytes_text, check, with_check, without_check]


class Numbers(unittest.TestCase):
    def test_there_and_back(self):
        for count in range(1, 9):
            for number in (0, 1, 255, 256, 256 ** count // 2, 256 ** count - 1):
                if number < 256 ** count:
                    some = number_bytes(number, count)
                    self.assertEqual(tuple(number.to_bytes(count, "big")), some)
                    self.assertEqual(number, bytes_number(some))

    def test_a_number_that_does_not_fit(self):
        for count in range(1, 9):
            self.assertEqual((255,) * count, number_bytes(256 ** count - 1, count))
            for number in (256 ** count, 256 ** count + 1, 256 ** 9, 10 ** 3000):
                with self.assertRaises(BadNumber):
                    number_bytes(number, count)

    def test_wrong_numbers(self):
        for value in NO_INTEGERS + ODD_TUPLES + [-1, -256, "1", ""]:
            with self.assertRaises(BadNumber):
                number_bytes(value, 8)

    def test_wrong_counts(self):
        for value in NO_INTEGERS + ODD_TUPLES + [-1, 0, 9, 64, "1", 10 ** 30]:
            for number in (0, 1, None):
                with self.assertRaises(BadNumber):
                    number_bytes(number, value)

    def test_too_many_bytes_or_none(self):
        self.assertEqual(0, bytes_number((0,)))
        self.assertEqual(2 ** 64 - 1, bytes_number((255,) * 8))
        for many in (0, 9, 10, 4000):
            with self.assertRaises(BadNumber):
                bytes_number((0,) * many)


class Texts(unittest.TestCase):
    def test_each_sign(self):
        self.assertEqual(SIGNS, bytes_text(text_bytes(SIGNS)))
        self.assertEqual(tuple(map(ord, SIGNS)), text_bytes(SIGNS))
        for code in range(256):
            if chr(code) in SIGNS:
                self.assertEqual(chr(code) * 2, bytes_text((code, code)))
            else:
                for some in ((code,), (97, code), (code, 97)):
                    with self.assertRaises(BadBytes):
                        bytes_text(some)

    def test_lengths(self):
        for many in (0, 1, 1999, 2000):
            self.assertEqual((98,) * many, text_bytes("b" * many))
            self.assertEqual("b" * many, bytes_text((98,) * many))
        with self.assertRaises(BadContents):
            text_bytes("b" * 2001)
        for many in (2001, 4000, 4001):
            with self.assertRaises(BadBytes):
                bytes_text((98,) * many)

    def test_no_contents(self):
        for value in ODD + ODD_TUPLES + ["\n", "a%", "\u00e9", "a\x00", ("a",), (97, 98)]:
            with self.assertRaises(BadContents):
                text_bytes(value)


class Bytes(unittest.TestCase):
    def test_no_bytes(self):
        for ask in WITH_BYTES:
            for value in ODD + ODD_TUPLES + ["", "ab", [97, 98], [], {97: 98}, deep(5000)]:
                # A tuple of one small integer is bytes, and there is no other such tuple among these.
                if value not in ((0,), (1,)):
                    with self.assertRaises(BadBytes):
                        ask(value)

    def test_wrong_items(self):
        for ask in WITH_BYTES:
            for value in ITEMS:
                for some in ((value,), (97, value), (value, 97, 97, 97, 97), (97,) * 200 + (value,)):
                    with self.assertRaises(BadBytes):
                        ask(some)

    def test_how_many(self):
        with self.assertRaises(BadNumber):
            bytes_number((0,) * 4000)
        with self.assertRaises(BadBytes):
            bytes_number((0,) * 4001)

    def test_arguments_stay_as_they_were(self):
        for value in ([1, 2], ([1],), {1: 2}):
            before = copy.deepcopy(value)
            for ask in WITH_BYTES:
                with self.assertRaises(BadBytes):
                    ask(value)
            self.assertEqual(before, value)


class Checks(unittest.TestCase):
    def test_sums(self):
        for some, told in [
            ((), (0, 0)), ((1,), (1, 1)), ((0, 1), (1, 2)), ((1, 2, 3), (6, 14)), ((255, 2), (0, 2)), ((255, 1), (256, 0)),
            ((255,) * 250, (255 * 250 % 257, 255 * 250 * 251 // 2 % 257)), ((0,) * 249 + (1,), (1, 250)),
        ]:
            self.assertEqual(told, check(some))
            ahead = (told[0] // 256, told[0] % 256, told[1] // 256, told[1] % 256)
            self.assertEqual(some + ahead, with_check(some))
            self.assertEqual(some, without_check(some + ahead))

    def test_how_many(self):
        for many in (0, 1, 249, 250):
            some = (7,) * many
            self.assertEqual(many + 4, len(with_check(some)))
            self.assertEqual(some, without_check(with_check(some)))
        for many in (251, 254, 255, 4000):
            for ask in (check, with_check):
                with self.assertRaises(BadBytes):
                    ask((0,) * many)
        self.assertEqual((0,) * 247, without_check((0,) * 251))
        self.assertEqual((0,) * 250, without_check((0,) * 254))
        self.assertIs(None, without_check((1,) * 254))
        for many in (255, 256, 4000, 4001):
            with self.assertRaises(BadBytes):
                without_check((0,) * many)

    def test_fewer_than_four(self):
        for some in ((), (0,), (0, 0), (0, 0, 0), (1, 2, 3)):
            self.assertIs(None, without_check(some))
        self.assertEqual((), without_check((0, 0, 0, 0)))
        self.assertIs(None, without_check((0, 0, 0, 1)))

    def test_each_change_of_one_byte_is_found(self):
        for plain in ((1, 2), (0,) * 6, (255,) * 6, (0, 255, 128, 1)):
            some = with_check(plain)
            for at in range(len(some)):
                for byte in range(256):
                    changed = some[:at] + (byte,) + some[at + 1:]
                    self.assertEqual(plain if changed == some else None, without_check(changed))

    def test_changes_of_two_bytes_are_found(self):
        some = with_check((9, 250))
        for one in range(len(some)):
            for other in range(one):
                for byte in range(0, 256, 3):
                    for more in range(0, 256, 3):
                        changed = list(some)
                        changed[one], changed[other] = byte, more
                        if tuple(changed) != some:
                            self.assertIs(None, without_check(tuple(changed)))

    def test_changes_of_long_bytes_are_found(self):
        chance = some_chance(1)
        some = with_check(tuple([chance.randrange(256) for _ in range(250)]))
        for _ in range(2000):
            changed = list(some)
            for at in chance.sample(range(254), chance.choice([1, 2])):
                changed[at] = (changed[at] + chance.randrange(1, 256)) % 256
            self.assertIs(None, without_check(tuple(changed)))
        swapped = some[:10] + (some[11], some[10]) + some[12:]
        self.assertIs(None, without_check(swapped))


if __name__ == "__main__":
    unittest.main()
