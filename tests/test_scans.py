"""Points 18 to 24: what comes up of an image, and what is wrong with it."""

import copy
import unittest

from keptanyhow.cards import card_pages
from keptanyhow.errors import BadCard, BadImage, BadNumber, NoHead, NoRoom, Unsound
from keptanyhow.images import count_keepings, kept, keeping_by, new_image, put_all
from keptanyhow.pages import told_page, written_page
from keptanyhow.scans import (
    card_on, cards_up, contents_on, counting, faults, greatest_stamp, head_of, open_sides, safe_sides, settled, settling,
    size_of, tree_up,
)
from tests.making import BLANK, TOP, base, file, folder, headed, none, put, put_card, put_head, put_told, wide
from tests.values import ODD, ODD_TUPLES, deep

PLAIN = [head_of, size_of, safe_sides, open_sides, counting, cards_up, faults, tree_up, greatest_stamp, settling, settled]
WITH_THING = [lambda image: card_on(image, 0, 0), lambda image: contents_on(image, 0, None)]
NO_NUMBERS = [value for value in ODD if not isinstance(value, int) or isinstance(value, bool)] + ODD_TUPLES + [
    "", "0", -1, 10 ** 30, deep(5000)]


class Heads(unittest.TestCase):
    def check_head(self, image, number, period, total, size=(2, 3)):
        self.assertEqual((number, period, total), head_of(image))
        self.assertEqual(size, size_of(image))

    def check_none(self, image):
        for ask in [ask for ask in PLAIN if ask not in (faults, greatest_stamp)] + WITH_THING:
            with self.assertRaises(NoHead):
                ask(image)
        self.assertEqual((("head",),), faults(image))
        self.assertEqual(0, greatest_stamp(image))

    def test_either_page(self):
        image = new_image((2, 3))
        self.check_head(image, 0, 0, 0)
        self.check_head(put_head(image, 1, 7, 2, 3, 2 ** 32), 1, 7, 2 ** 32)
        self.check_head(put_head(put(image, 0, None), 1, 0, 2, 3, 5), 1, 0, 5)
        self.check_head(put_head(put(image, 1, None), 0, TOP, 2, 3, 5), 0, TOP, 5)

    def test_the_greater_period(self):
        image = new_image((2, 3))
        for one, other, number in [(5, 4, 0), (4, 5, 1), (5, 5, 0), (0, 0, 0), (0, 1, 1), (TOP, 0, 0), (255, 256, 1)]:
            heads = put_head(put_head(image, 0, one, 2, 3, 10), 1, other, 2, 3, 20)
            self.check_head(heads, number, max(one, other), 20 if number else 10)

    def test_sizes_of_which_the_image_is_none(self):
        image = new_image((2, 3))
        for things, pages in [(2, 2), (2, 4), (1, 3), (3, 3), (24, 200)]:
            heads = put_head(put_head(image, 0, 9, things, pages, 10), 1, 4, 2, 3, 20)
            self.check_head(heads, 1, 4, 20)
            self.check_head(heads[1::-1] + heads[2:], 0, 4, 20)
            self.check_none(put_head(put(image, 1, BLANK), 0, 9, things, pages, 10)[:2] + (BLANK,) * 7)

    def test_another_size_of_the_same_image(self):
        image = new_image((2, 3))
        self.check_head(put_head(image, 1, 3, 1, 5, 0), 1, 3, 0, (1, 5))
        self.check_head(put_head(image, 1, 0, 1, 5, 0), 0, 0, 0, (2, 3))
        self.check_head(put_head(image, 0, 0, 3, 1, 0), 0, 0, 0, (3, 1))

    def test_no_head(self):
        for image in [(BLANK,) * 4, (None,) * 4, (None,) * 250, (BLANK, BLANK, written_page(("head", 0, 1, 0, 0)), BLANK)]:
            self.check_none(image)
        broken = new_image((1, 0))
        self.check_none((broken[0][:-1] + (broken[0][-1] ^ 1,), None, BLANK, BLANK))

    def test_no_images(self):
        wrong = ODD + ODD_TUPLES + [(), "", (BLANK,) * 3, (BLANK,) * 251, [BLANK] * 4, (BLANK,) * 3 + ((0,) * 63,),
                                    (BLANK,) * 3 + ("",), list(new_image((1, 0))), deep(5000)]
        for value in wrong:
            for ask in PLAIN + WITH_THING:
                with self.assertRaises(BadImage):
                    ask(value)
            with self.assertRaises(BadImage):
                card_on(value, None, None)

    def test_arguments_stay_as_they_were(self):
        value = [list(BLANK)] * 4
        before = copy.deepcopy(value)
        for ask in PLAIN:
            with self.assertRaises(BadImage):
                ask(value)
        self.assertEqual(before, value)


class Cards(unittest.TestCase):
    def test_either_side(self):
        image = base()
        card = file(3, 4, ((0, "f"),), 60, ((15, 1), (14, 2)))
        for thing in range(6):
            for side in (0, 1):
                self.assertEqual(card, card_on(put_card(image, thing, side, card), thing, side))
                self.assertIs(None, card_on(put(image, 2 + 2 * thing + side, None), thing, side))
            self.assertIs(None, card_on(image, thing, 1))
            self.assertEqual((0, 0, "none" if thing else "folder", (), 0, (), ()), card_on(image, thing, 0))

    def test_a_card_of_another_thing(self):
        image = base()
        self.assertIs(None, card_on(put(image, 5, card_pages(2, none(1, 1), ())[0]), 1, 1))
        self.assertEqual(none(1, 1), card_on(put(image, 5, card_pages(1, none(1, 1), ())[0]), 1, 1))

    def test_other_pages(self):
        image = base()
        for told in [("blank",), ("tail", 1, 1, 0, (0,) * 54), ("data", 1, 1, 0, "x"), ("head", 1, 6, 8, 0)]:
            self.assertIs(None, card_on(put_told(image, 5, *told), 1, 1))

    def test_tails(self):
        for many, tails in [(1, (14,)), (1, (21,)), (2, (21, 14)), (3, (16, 15, 18))]:
            card = wide(many)
            image = put_card(base(), 2, 1, card, tails)
            self.assertEqual(card, card_on(image, 2, 1))
            for tail in tails:
                told = told_page(image[tail])
                for other in [None, BLANK, card_pages(1, card, tails)[1],
                              written_page(told[:2] + (told[2] + 1,) + told[3:]),
                              written_page(told[:3] + (told[3] + 1,) + told[4:]),
                              written_page(("data", 2, told[2], told[3], "x"))]:
                    self.assertIs(None, card_on(put(image, tail, other), 2, 1))
            if many > 1:
                swapped = put(put(image, tails[0], image[tails[1]]), tails[1], image[tails[0]])
                self.assertIs(None, card_on(swapped, 2, 1))

    def test_tails_that_are_not_free_for_all(self):
        card = wide(1)
        for tail in (0, 1, 2, 5, 12, 13, 22, 249):
            pages = card_pages(2, card, (tail,))
            image = put(base(), 7, pages[0])
            if tail < len(image):
                image = put(image, tail, pages[1])
            if tail != 0:
                self.assertIs(None, card_on(image, 2, 1))
        self.assertEqual(card, card_on(put_card(base(), 2, 1, card, (14,)), 2, 1))

    def test_bytes_behind_those_of_the_card(self):
        image = base()
        for stamp, period, length, some in [
            (1, 1, 5, (0,) * 48 + (1,)), (1, 1, 5, (0,) * 5 + (7,) + (0,) * 43), (1, 1, 4, (0,) * 49),
            (1, 1, 6, (0,) * 49), (1, 1, 0, (0,) * 49), (1, 1, 49, (0,) * 49), (1, 1, 1000, (0,) * 49),
        ]:
            self.assertIs(None, card_on(put_told(image, 5, "card", 1, stamp, period, length, (), some), 1, 1))
        self.assertEqual(none(1, 1), card_on(put_told(image, 5, "card", 1, 1, 1, 5, (), (0,) * 49), 1, 1))

    def test_needless_tails(self):
        image = put_told(base(), 14, "tail", 1, 1, 0, (0,) * 54)
        image = put_told(image, 5, "card", 1, 1, 1, 5, (14,), (0,) * 48)
        self.assertIs(None, card_on(image, 1, 1))

    def test_bytes_behind_those_of_the_card_on_a_tail(self):
        image = put_card(base(), 2, 1, wide(1), (14,))
        told = told_page(image[14])
        self.assertIs(None, card_on(put_told(image, 14, *told[:4], told[4][:-1] + (1,)), 2, 1))

    def test_wrong_numbers(self):
        image = base()
        for value in NO_NUMBERS + [6, 23, 24]:
            for side in (0, 1, None, 2):
                with self.assertRaises(BadNumber):
                    card_on(image, value, side)
        for value in NO_NUMBERS + [2, 3]:
            with self.assertRaises(BadNumber):
                card_on(image, 0, value)
        with self.assertRaises(NoHead):
            card_on((None,) * 4, None, None)


class Contents(unittest.TestCase):
    def setUp(self):
        self.text = "a" * 50 + "b" * 50 + "c" * 20
        self.card = file(9, 9, ((0, "f"),), 120, ((21, 5), (14, 6), (16, 5)))
        image = put_told(base(), 21, "data", 3, 5, 0, "a" * 50)
        image = put_told(image, 14, "data", 3, 6, 1, "b" * 50)
        self.image = put_told(image, 16, "data", 3, 5, 2, "c" * 20)

    def test_contents(self):
        self.assertEqual(self.text, contents_on(self.image, 3, self.card))
        self.assertEqual("", contents_on(self.image, 3, file(1, 1, ((0, "f"),))))
        self.assertEqual("", contents_on(new_image((1, 0)), 0, file(1, 1, ((0, "f"),))))
        self.assertEqual("a" * 50, contents_on(self.image, 3, file(1, 1, ((0, "f"),), 50, ((21, 5),))))

    def test_parts_that_are_not_so(self):
        for number, told in [
            (21, ("blank",)), (21, ("data", 2, 5, 0, "a" * 50)), (21, ("data", 3, 6, 0, "a" * 50)),
            (21, ("data", 3, 4, 0, "a" * 50)), (21, ("data", 3, 5, 1, "a" * 50)), (21, ("data", 3, 5, 0, "a" * 49)),
            (21, ("data", 3, 5, 0, "a")), (21, ("tail", 3, 5, 0, (97,) * 54)), (16, ("data", 3, 5, 2, "c" * 19)),
            (16, ("data", 3, 5, 2, "c" * 21)), (16, ("data", 3, 5, 2, "c" * 50)),
        ]:
            self.assertIs(None, contents_on(put_told(self.image, number, *told), 3, self.card))
        for number in (14, 16, 21):
            self.assertIs(None, contents_on(put(self.image, number, None), 3, self.card))

    def test_lengths(self):
        for length in (101, 119, 121, 150):
            self.assertIs(None, contents_on(self.image, 3, self.card[:4] + (length,) + self.card[5:]))
        for thing in (0, 1, 2, 4):
            self.assertIs(None, contents_on(self.image, thing, self.card))

    def test_pages_that_are_not_free_for_all(self):
        for number in (0, 1, 2, 3, 12, 13, 22, 249):
            image = self.image
            if 0 < number < len(image):
                image = put_told(image, number, "data", 3, 5, 0, "a" * 50)
            card = self.card[:5] + (((number, 5),) + self.card[5][1:],) + self.card[6:]
            self.assertIs(None, contents_on(image, 3, card))

    def test_wrong_arguments(self):
        for value in NO_NUMBERS + [6, 23, 24]:
            for card in (self.card, None, none(1, 1)):
                with self.assertRaises(BadNumber):
                    contents_on(self.image, value, card)
        for value in ODD + ODD_TUPLES + [(), none(1, 1), folder(1, 1, (0, "a")), self.card[:6], list(self.card), deep(5000)]:
            with self.assertRaises(BadCard):
                contents_on(self.image, 3, value)
        with self.assertRaises(NoHead):
            contents_on((None,) * 4, None, None)


class Sides(unittest.TestCase):
    def check(self, image, safe, opened):
        self.assertEqual((safe, opened), (safe_sides(image)[1], open_sides(image)[1]))

    def two(self, one, other):
        """An image of period 5 with these cards of thing 1."""
        image = put(put(base(), 4, BLANK), 5, BLANK)
        image = image if one is None else put_card(image, 1, 0, one)
        return image if other is None else put_card(image, 1, 1, other)

    def test_safe_ones(self):
        for one, other, side in [
            (None, None, None), (none(1, 5), None, 0), (None, none(1, 5), 1), (none(1, 5), none(2, 4), 1),
            (none(2, 4), none(1, 5), 0), (none(1, 5), none(1, 5), 0), (none(1, 0), none(1, 5), 0), (none(0, 0), None, 0),
            (none(1, 1), none(2, 6), 0), (none(2, 6), none(1, 1), 1), (none(9, 7), none(1, 1), 1),
            (none(9, 6), none(9, 7), None), (none(9, TOP), None, None),
        ]:
            self.assertEqual(side, safe_sides(self.two(one, other))[1])

    def test_open_ones(self):
        for one, other, safe, opened in [
            (none(1, 5), none(2, 6), 0, 1), (none(2, 6), none(1, 5), 1, 0), (none(1, 6), None, None, 0),
            (None, none(1, 6), None, 1), (none(1, 6), none(2, 6), None, None), (none(1, 5), none(2, 7), 0, None),
            (none(1, 7), none(2, 6), None, 1), (none(1, 5), none(2, 5), 1, None), (none(2, 5), none(1, 6), 0, 1),
        ]:
            self.check(self.two(one, other), safe, opened)

    def test_open_files(self):
        card = file(2, 6, ((0, "f"),), 3, ((14, 2),))
        image = self.two(none(1, 5), card)
        self.check(image, 0, None)
        self.check(put_told(image, 14, "data", 1, 2, 0, "abc"), 0, 1)
        self.check(put_told(image, 14, "data", 1, 2, 0, "ab"), 0, None)
        self.check(self.two(none(1, 5), file(2, 6, ((0, "f"),))), 0, 1)
        # A safe card is safe whatever its parts are.
        self.check(self.two(file(2, 5, ((0, "f"),), 3, ((14, 2),)), None), 0, None)

    def test_a_file_without_its_contents_and_another_card(self):
        card = file(2, 6, ((0, "f"),), 3, ((14, 2),))
        self.check(self.two(card, none(3, 6)), None, None)
        image = put_told(self.two(card, none(3, 6)), 14, "data", 1, 2, 0, "abc")
        self.check(image, None, None)

    def test_all_things(self):
        image = put_card(put_card(base(), 2, 1, none(4, 5)), 4, 1, none(5, 6))
        self.assertEqual((0, 0, 1, 0, 0, 0), safe_sides(image))
        self.assertEqual((None, None, None, None, 1, None), open_sides(image))
        self.assertEqual((None,), safe_sides(put(new_image((1, 0)), 2, None)))

    def test_a_head_of_the_greatest_period(self):
        image = put_card(base(period=TOP), 1, 1, none(9, TOP))
        self.assertEqual((0, 1, 0, 0, 0, 0), safe_sides(image))
        self.assertEqual((None,) * 6, open_sides(image))


class Counting(unittest.TestCase):
    def opened(self, needs, image=None):
        """An image of period 5 with open cards of stamp 10 + thing and these needs."""
        image = base() if image is None else image
        for thing, need in needs.items():
            image = put_card(image, thing, 1, none(10 + thing, 6, need))
        return image

    def check(self, image, things):
        self.assertEqual(things, counting(image))
        up = cards_up(image)
        for thing in range(6):
            safe, opened = safe_sides(image)[thing], open_sides(image)[thing]
            side = opened if thing in things else safe
            self.assertEqual(None if side is None else card_on(image, thing, side), up[thing])

    def test_needs_that_are_met(self):
        self.check(self.opened({}), ())
        self.check(self.opened({1: (), 2: ()}), (1, 2))
        self.check(self.opened({1: ((2, 12),), 2: ((1, 11),)}), (1, 2))
        self.check(self.opened({1: ((2, 11), (3, 0)), 2: ()}), (1, 2))
        self.check(self.opened({1: ((1, 11),)}), (1,))
        self.check(self.opened({0: ((5, 0),), 5: ((0, 10),)}), (0, 5))

    def test_needs_that_are_not(self):
        self.check(self.opened({1: ((2, 13),), 2: ()}), (2,))
        self.check(self.opened({1: ((3, 1),), 2: ()}), (2,))
        self.check(self.opened({1: ((2, 12),)}), ())
        self.check(self.opened({1: ((1, 12),)}), ())
        self.check(self.opened({1: ((3, 0), (4, 1))}), ())

    def test_things_that_the_image_does_not_have(self):
        self.check(self.opened({1: ((6, 0),), 2: ()}), (2,))
        self.check(self.opened({1: ((23, 0),), 2: ((1, 11),)}), ())

    def test_strikes_in_turn(self):
        chain = {1: ((2, 12),), 2: ((3, 13),), 3: ((4, 14),), 4: ((5, 16),), 5: ()}
        self.check(self.opened(chain), (5,))
        chain[4] = ((5, 15),)
        self.check(self.opened(chain), (1, 2, 3, 4, 5))
        self.check(self.opened({1: ((2, 12),), 2: ((1, 11), (3, 1)), 4: ((1, 0),)}), (4,))

    def test_a_thing_without_a_safe_card(self):
        image = put(self.opened({1: (), 2: ((1, 11),), 3: ((1, 0),)}), 4, BLANK)
        self.check(image, ())
        self.assertIs(None, cards_up(image)[1])

    def test_a_need_of_a_safe_card(self):
        image = put_card(base(), 3, 0, none(7, 5))
        self.check(self.opened({1: ((3, 7),)}, image), (1,))
        self.check(self.opened({1: ((3, 8),)}, image), ())
        self.check(self.opened({1: ((3, 13),), 3: ()}, image), (1, 3))
        self.check(self.opened({1: ((3, 7),), 3: ((4, 1),)}, image), (1,))
        self.check(self.opened({1: ((3, 8),), 3: ((4, 1),)}, image), ())

    def test_all_are_struck_at_once(self):
        # The safe card of thing 2 would do for thing 1, but its lesser open one is still taken when thing 1 is struck.
        image = put_card(base(), 2, 0, none(30, 5))
        self.check(self.opened({1: ((2, 20),), 2: ((3, 1),)}, image), ())
        self.check(self.opened({1: ((2, 20), (3, 0))}, image), (1,))
        # Here thing 2 is struck one turn ahead of thing 4, on which thing 1 depends.
        image = self.opened({1: ((4, 14),), 2: ((3, 1),), 4: ((2, 20),)}, image)
        self.check(image, ())

    def test_cards_that_are_not_open(self):
        image = put_card(self.opened({1: ((2, 20),)}), 2, 1, none(20, 7))
        self.check(image, ())
        image = put_card(self.opened({1: ((2, 20),)}), 2, 1, none(20, 5))
        self.check(image, (1,))


class Faults(unittest.TestCase):
    def up(self, cards, total=None, things=6, pages=8):
        """An image of period 5 with these safe cards, with their tails if a pair tells these."""
        image = base(things, pages)
        stamps = 0
        for thing, card in cards.items():
            tails = card[1] if isinstance(card[1], tuple) else ()
            card = card[0] if isinstance(card[0], tuple) else card
            image = put_card(image, thing, 0, card, tails)
            stamps += card[0]
        return headed(image, things, pages, stamps if total is None else total)

    def check(self, image, *told):
        self.assertEqual(told, faults(image))
        for ask in (tree_up, settling, settled):
            if told:
                with self.assertRaises(Unsound) as caught:
                    ask(image)
                self.assertEqual({"faults": told}, caught.exception.__dict__)
            else:
                ask(image)

    def test_none(self):
        self.check(self.up({}))
        self.check(self.up({1: folder(1, 1, (0, "a")), 2: folder(2, 1, (1, "a")), 3: file(3, 1, ((0, "b"), (2, "b")))}))
        self.check(put_card(self.up({}), 1, 1, none(TOP, TOP)))
        self.check(put_card(self.up({}), 1, 1, none(TOP, 6, ((2, 1),))))

    def test_safe(self):
        image = put(put(self.up({1: folder(9, 1, (5, "a"))}, 0), 6, None), 12, BLANK)
        self.check(put(self.up({}), 2, None), ("safe", 0))
        self.check(image, ("safe", 2), ("safe", 5))
        self.check((image[0],) + (None,) * 21, *[("safe", thing) for thing in range(6)])
        # An open card is no safe one.
        self.check(put_card(put(self.up({}), 4, BLANK), 1, 1, none(1, 6)), ("safe", 1))

    def test_sum(self):
        for total in (0, 2, 4, 2 ** 32):
            self.check(self.up({1: none(1, 1), 2: none(2, 5)}, total), ("sum",))
        self.check(self.up({1: none(1, 1), 2: none(2, 5)}, 3))
        # The sum tells of safe cards, not of those that come up.
        self.check(put_card(self.up({1: none(1, 1)}), 1, 1, none(9, 6)))
        self.check(put_card(self.up({1: none(1, 1)}, 9), 1, 1, none(9, 6)), ("sum",))
        self.check(put_card(self.up({1: none(1, 1)}), 1, 1, none(9, 5)), ("sum",))

    def test_part(self):
        card = file(1, 1, ((0, "f"),), 2, ((14, 1),))
        image = self.up({2: card, 4: file(1, 1, ((0, "g"),), 2, ((15, 1),))})
        self.check(image, ("part", 2), ("part", 4))
        image = put_told(image, 15, "data", 4, 1, 0, "hi")
        self.check(image, ("part", 2))
        self.check(put_told(image, 14, "data", 2, 1, 0, "hi"))
        # The file that does not come up may lack what it likes.
        self.check(put_card(image, 2, 1, none(2, 6)))

    def test_root(self):
        for card in (none(1, 1), file(1, 1, ((5, "a"),))):
            self.check(self.up({0: card, 5: folder(1, 1, (0, "a"))}), ("root",), ("place", 5))
        self.check(self.up({0: none(1, 1)}), ("root",))
        self.check(self.up({0: folder(1, 1, (0, "a"))}), ("root",))
        self.check(self.up({0: folder(1, 1, (5, "a")), 5: folder(1, 1, (0, "b"))}), ("root",))
        self.check(self.up({0: folder(1, 1, (3, "a"))}), ("root",))

    def test_place_whose_folder_is_none(self):
        self.check(self.up({1: file(1, 1, ((2, "a"),))}), ("place", 1))
        self.check(self.up({1: file(1, 1, ((0, "b"), (2, "a"))), 3: file(1, 1, ((1, "a"),))}), ("place", 1), ("place", 3))
        self.check(self.up({1: file(1, 1, ((6, "a"),))}), ("place", 1))
        self.check(self.up({1: file(1, 1, ((1, "a"),))}), ("place", 1))
        self.check(self.up({1: file(1, 1, ((23, "a"),)), 2: folder(1, 1, (0, "b"))}), ("place", 1))
        image = self.up({1: file(1, 1, ((2, "a"),))})
        self.check(put_card(image, 2, 1, folder(5, 6, (0, "b"))))

    def test_place_of_a_lesser_thing(self):
        self.check(self.up({1: file(1, 1, ((0, "a"),)), 2: folder(1, 1, (0, "a"))}), ("place", 2))
        self.check(self.up({1: file(1, 1, ((0, "a"), (0, "b"))), 2: folder(1, 1, (0, "c")), 3: file(1, 1, ((0, "b"), (2, "a")))}),
                   ("place", 3))
        self.check(self.up({thing: file(1, 1, ((0, "a"),)) for thing in (2, 3, 5)}), ("place", 3), ("place", 5))
        self.check(self.up({0: folder(1, 1, (0, "a")), 3: file(1, 1, ((0, "a"),))}), ("root",), ("place", 3))

    def test_no_place(self):
        self.check(self.up({1: folder(1, 1)}), ("place", 1), ("ring", 1))
        self.check(self.up({1: folder(1, 1), 2: file(1, 1, ((1, "a"),))}), ("place", 1), ("ring", 1))

    def test_ring(self):
        self.check(self.up({1: folder(1, 1, (1, "a"))}), ("ring", 1))
        self.check(self.up({1: folder(1, 1, (2, "a")), 2: folder(1, 1, (1, "a"))}), ("ring", 1), ("ring", 2))
        self.check(self.up({1: folder(1, 1, (2, "a")), 2: folder(1, 1, (3, "a")), 3: folder(1, 1, (2, "b")),
                            4: folder(1, 1, (5, "a")), 5: folder(1, 1, (0, "b"))}), ("ring", 1), ("ring", 2), ("ring", 3))
        self.check(self.up({1: folder(1, 1, (2, "a")), 2: folder(1, 1, (1, "a")), 3: file(1, 1, ((1, "b"),))}),
                   ("ring", 1), ("ring", 2))
        self.check(self.up({1: folder(1, 1, (4, "a"))}), ("place", 1), ("ring", 1))
        self.check(self.up({1: folder(1, 1, (6, "a"))}), ("place", 1), ("ring", 1))
        self.check(self.up({1: file(1, 1, ((0, "f"),)), 2: folder(1, 1, (1, "a")), 3: folder(1, 1, (2, "b"))}),
                   ("place", 2), ("ring", 2), ("ring", 3))
        deepest = {thing: folder(1, 1, (thing - 1, "a")) for thing in range(1, 24)}
        self.check(self.up(deepest, things=24, pages=0))
        deepest[1] = folder(1, 1, (23, "b"))
        self.check(self.up(deepest, things=24, pages=0), *[("ring", thing) for thing in range(1, 24)])

    def test_shared(self):
        twice = file(1, 1, ((0, "f"),), 100, ((14, 1), (14, 1)))
        image = put_told(self.up({1: twice}), 14, "data", 1, 1, 0, "a" * 50)
        self.check(image, ("part", 1), ("shared", 14))
        card = wide(2)
        two = self.up({1: (card, (15, 16)), 2: none(1, 1)})
        self.check(two)
        self.check(put_told(put_card(two, 2, 1, file(1, 6, ((0, "x"),), 1, ((15, 1),))), 15, "data", 2, 1, 0, "x"), ("safe", 1))
        shared = self.up({1: (card, (15, 16)), 2: file(1, 1, ((0, "x"),), 51, ((16, 1), (14, 1))),
                          3: file(1, 1, ((0, "y"),), 101, ((14, 1), (15, 1), (14, 1)))})
        self.check(shared, ("part", 2), ("part", 3), ("shared", 14), ("shared", 15), ("shared", 16))

    def test_a_shared_page_is_told_as_one_thing_only(self):
        # So there is no such fault by itself: the other one that has the page lacks a part.
        image = self.up({1: file(1, 1, ((0, "f"),), 50, ((14, 1),)), 2: file(1, 1, ((0, "g"),), 50, ((14, 1),))})
        image = put_told(image, 14, "data", 1, 1, 0, "a" * 50)
        self.check(image, ("part", 2), ("shared", 14))
        self.check(put_card(image, 2, 1, none(2, 6)))

    def test_several_kinds(self):
        image = self.up({
            0: folder(1, 1, (2, "r")), 1: file(1, 1, ((0, "a"),), 1, ((14, 1),)), 2: folder(1, 1, (3, "a")),
            3: folder(1, 1, (2, "b")), 4: folder(1, 1, (0, "a")), 5: file(1, 1, ((1, "a"),), 1, ((14, 1),)),
        }, 0)
        self.check(image, ("sum",), ("part", 1), ("part", 5), ("root",), ("place", 4), ("place", 5), ("ring", 2), ("ring", 3),
                   ("shared", 14))
        self.check(put(put(image, 12, None), 2, None), ("safe", 0), ("safe", 5))

    def test_no_head(self):
        for image in ((None,) * 4, (BLANK,) * 9):
            self.assertEqual((("head",),), faults(image))


class Trees(unittest.TestCase):
    def test_tree_up(self):
        image = headed(base(), 6, 8, 0)
        for thing, card in [
            (3, folder(0, 1, (0, "a"))), (1, folder(0, 1, (3, "b"))),
            (2, file(0, 1, ((0, "z"), (1, "f"), (3, "g")), 52, ((15, 1), (14, 2)))), (5, file(0, 1, ((0, "e"),))),
        ]:
            image = put_card(image, thing, 0, card)
        image = put_told(image, 15, "data", 2, 1, 0, "x" * 50)
        image = put_told(image, 14, "data", 2, 2, 1, "hi")
        self.assertEqual((
            ("/a", "folder"), ("/a/b", "folder"), ("/a/b/f", "file", "x" * 50 + "hi"), ("/a/g", "same", "/a/b/f"),
            ("/e", "file", ""), ("/z", "same", "/a/b/f"),
        ), tree_up(image))

    def test_open_cards(self):
        image = put_card(base(), 1, 1, folder(3, 6, (0, "a")))
        self.assertEqual((("/a", "folder"),), tree_up(image))
        self.assertEqual((), tree_up(put_card(base(), 1, 1, folder(3, 6, (0, "a"), needs=((2, 1),)))))
        self.assertEqual((), tree_up(put_card(base(), 1, 1, folder(3, 7, (0, "a")))))

    def test_greatest_stamp(self):
        image = base()
        self.assertEqual(0, greatest_stamp(image))
        for number in (0, 1, 2, 5, 13, 14, 21):
            for told in [("card", 3, 77, 1, 5, (), (9,) * 49), ("tail", 3, 77, 1, (9,) * 54), ("data", 3, 77, 1, "x")]:
                self.assertEqual(77, greatest_stamp(put_told(image, number, *told)))
        self.assertEqual(0, greatest_stamp(put_head(image, 1, 99, 6, 8, 99)))
        self.assertEqual(TOP, greatest_stamp(put_told(put_told(image, 15, "data", 0, TOP, 1, "x"), 16, "data", 0, 5, 1, "x")))
        self.assertEqual(0, greatest_stamp((None,) * 4))
        self.assertEqual(5, greatest_stamp((BLANK, written_page(("data", 0, 5, 0, "x"))) + (None,) * 2))
        self.assertEqual(5, greatest_stamp(put_told(put(image, 2, None), 3, "data", 0, 5, 0, "x")))


class Settling(unittest.TestCase):
    def test_new_ones(self):
        self.assertEqual(((), ((1, written_page(("head", 1, 2, 3, 0))),)), settling(new_image((2, 3))))
        behind = settled(new_image((2, 3)))
        self.assertEqual((1, 1, 0), head_of(behind))
        self.assertEqual(((), ((0, written_page(("head", 2, 2, 3, 0))),)), settling(behind))

    def image(self):
        """An image of period 5 on page 1 with sides of all kinds."""
        image = put_head(new_image((8, 8)), 1, 5, 8, 8, 4)
        image = put_card(image, 1, 1, folder(9, 6, (0, "a")))
        image = put_card(image, 2, 1, folder(9, 6, (0, "b"), needs=((3, 10),)))
        image = put_card(image, 3, 1, none(9, 7))
        image = put_card(image, 4, 1, none(4, 5))
        image = put_card(image, 5, 1, file(8, 6, ((0, "f"),), 1, ((20, 8),)))
        # A card of another thing, and one whose tail is lacking.
        image = put(image, 15, card_pages(7, none(3, 6), ())[0])
        image = put(image, 17, card_pages(7, wide(1)[:1] + (9,) + wide(1)[2:], (21,))[0])
        return image

    def test_blank_ones_and_a_head(self):
        image = self.image()
        self.assertEqual((), faults(image))
        self.assertEqual((1,), counting(image))
        blanks, heads = settling(image)
        self.assertEqual(tuple([(number, BLANK) for number in (7, 9, 13, 15, 17)]), blanks)
        self.assertEqual(((0, written_page(("head", 6, 8, 8, 13))),), heads)
        self.assertEqual(put_all(image, blanks + heads), settled(image))

    def test_safe_cards_are_not_blanked(self):
        image = put_card(put_card(base(), 1, 1, none(0, 5)), 2, 1, none(0, 0))
        self.assertEqual((), settling(image)[0])

    def test_the_same_tree_comes_up_of_all_keepings(self):
        image = put_told(self.image(), 20, "data", 5, 8, 0, "x")
        for start in (image, self.image()):
            tree = tree_up(start)
            blanks, heads = settling(start)
            for number in range(count_keepings(blanks)):
                digits = tuple([number // 3 ** at for at in range(len(blanks))])
                between = kept(start, blanks, keeping_by(blanks, digits))
                self.assertEqual(tree, tree_up(between))
                self.assertEqual((), faults(between))
            lasting = put_all(start, blanks)
            for keeping in ((-1,), (0,), (1,)):
                behind = kept(lasting, heads, keeping)
                self.assertEqual(tree, tree_up(behind))
                self.assertEqual(tree, tree_up(settled(behind)))
            self.assertEqual(tree, tree_up(settled(start)))
            self.assertEqual((None,) * 8, open_sides(settled(start)))
            self.assertEqual((), settling(settled(start))[0])

    def test_periods(self):
        for period in (0, 1, TOP - 2):
            self.assertEqual(period + 1, head_of(settled(base(period=period)))[1])
        for period in (TOP - 1, TOP):
            image = base(period=period)
            self.assertEqual((), tree_up(image))
            self.assertEqual((), faults(image))
            for ask in (settling, settled):
                with self.assertRaises(NoRoom) as caught:
                    ask(image)
                self.assertEqual({"what": "periods"}, caught.exception.__dict__)
                with self.assertRaises(Unsound):
                    ask(put(image, 2, None))


if __name__ == "__main__":
    unittest.main()
