"""Points 15 to 17: images, writes and keepings."""

import copy
import unittest

from keptanyhow.cards import card_pages
from keptanyhow.errors import BadImage, BadKeeping, BadNumber, BadSize, BadWrites
from keptanyhow.images import (
    count_keepings, kept, keeping_by, new_image, put_all, times_written, written_numbers,
)
from keptanyhow.pages import told_page, written_page
from tests.values import ODD, ODD_TUPLES, deep

BLANK = (0,) * 64
NO_PAGES = [value for value in ODD if value is not None] + ODD_TUPLES + [
    "", (), (0,) * 63, (0,) * 65, [0] * 64, (256,) * 64, (True,) * 64, deep(5000)]
WITH_WRITES = [written_numbers, times_written, count_keepings, lambda writes: keeping_by(writes, (0,))]


def data(number):
    """Pages that are unlike one another."""
    return written_page(("data", 0, number, 0, "x"))


WRITES = ((7, data(1)), (4, data(2)), (7, data(3)), (0, data(4)), (7, data(5)), (4, data(6)))


class Sizes(unittest.TestCase):
    def test_new_images(self):
        for things, pages in [(1, 0), (1, 200), (24, 0), (24, 200), (2, 3), (5, 7)]:
            image = new_image((things, pages))
            self.assertEqual(2 + 2 * things + pages, len(image))
            self.assertEqual(("head", 0, things, pages, 0), told_page(image[0]))
            self.assertEqual(BLANK, image[1])
            for thing in range(things):
                kind = "folder" if thing == 0 else "none"
                self.assertEqual(card_pages(thing, (0, 0, kind, (), 0, (), ()), ()), image[2 + 2 * thing:3 + 2 * thing])
                self.assertEqual(BLANK, image[3 + 2 * thing])
            self.assertEqual((BLANK,) * pages, image[2 + 2 * things:])

    def test_no_sizes(self):
        for value in ODD + ODD_TUPLES + [
            (), (1,), (1, 0, 0), [1, 0], (0, 0), (25, 0), (1, -1), (1, 201), (True, 0), (1, True), (1, False), (None, 0),
            (1, None), ("1", 0), (1, (0,)), "10", {1: 0, 2: 1}, (10 ** 30, 0), deep(5000), (1, deep(5000)),
        ]:
            with self.assertRaises(BadSize):
                new_image(value)


class Images(unittest.TestCase):
    def check_bad(self, image):
        for writes in ((), None, ((9999, None),)):
            with self.assertRaises(BadImage):
                put_all(image, writes)
            with self.assertRaises(BadImage):
                kept(image, writes, None)

    def test_how_many_pages(self):
        for many in (4, 5, 249, 250):
            image = (BLANK,) * many
            self.assertEqual(image, put_all(image, ()))
            self.assertEqual(image, kept(image, (), ()))
        for many in (0, 1, 3, 251, 300):
            self.check_bad((BLANK,) * many)
        self.assertEqual((None,) * 4, put_all((None,) * 4, ()))

    def test_no_images(self):
        for value in ODD + ODD_TUPLES + ["abcd", [BLANK] * 4, {}, deep(5000), BLANK]:
            self.check_bad(value)

    def test_no_pages(self):
        for value in NO_PAGES:
            for image in ((value,) + (BLANK,) * 4, (BLANK,) * 4 + (value,), (None, BLANK, value, None)):
                self.check_bad(image)


class Writes(unittest.TestCase):
    def check_wrong(self, writes, index):
        for ask in WITH_WRITES + [lambda some: put_all((BLANK,) * 8, some), lambda some: kept((BLANK,) * 8, some, None)]:
            with self.assertRaises(BadWrites) as caught:
                ask(writes)
            self.assertEqual({"index": index}, caught.exception.__dict__)
            self.assertIs(index is None, caught.exception.index is None)

    def test_put_all(self):
        image = (BLANK, None) * 4
        self.assertEqual(image, put_all(image, ()))
        behind = put_all(image, WRITES)
        self.assertEqual((data(4), None, BLANK, None, data(6), None, BLANK, data(5)), behind)
        self.assertEqual((BLANK, data(1)) + image[2:], put_all(image, ((1, data(1)),)))

    def test_numbers_and_times(self):
        self.assertEqual((0, 4, 7), written_numbers(WRITES))
        self.assertEqual((1, 2, 3), times_written(WRITES))
        self.assertEqual((), written_numbers(()))
        self.assertEqual((), times_written(()))
        self.assertEqual((249,), written_numbers(((249, BLANK),) * 2000))
        self.assertEqual((2000,), times_written(((249, BLANK),) * 2000))

    def test_how_many(self):
        self.assertEqual((BLANK,) * 8, put_all((BLANK,) * 8, ((0, BLANK),) * 2000))
        self.check_wrong(((0, BLANK),) * 2001, None)
        self.check_wrong((None,) * 2001, None)

    def test_no_tuples(self):
        for value in ODD + ["", [(0, BLANK)], [], {0: BLANK}]:
            self.check_wrong(value, None)

    def test_wrong_items(self):
        for value in ODD + ODD_TUPLES + [
            (), (0,), (0, BLANK, 0), [0, BLANK], (-1, BLANK), (250, BLANK), (True, BLANK), (False, BLANK), (None, BLANK),
            ("0", BLANK), (0, None), (BLANK, 0), (10 ** 30, BLANK), BLANK, deep(5000),
        ] + [(0, page) for page in NO_PAGES]:
            self.check_wrong((value,), 0)
            self.check_wrong(((0, BLANK), (7, BLANK), value, None), 2)

    def test_numbers_of_the_image(self):
        writes = ((0, BLANK), (4, BLANK))
        self.assertEqual((0, 4), written_numbers(writes))
        put_all((BLANK,) * 5, writes)
        for ask in (lambda: put_all((BLANK,) * 4, writes), lambda: kept((BLANK,) * 4, writes, (0, 0))):
            with self.assertRaises(BadWrites) as caught:
                ask()
            self.assertEqual(1, caught.exception.index)
        put_all((BLANK,) * 250, ((249, BLANK),))
        with self.assertRaises(BadWrites):
            written_numbers(((250, BLANK),))

    def test_arguments_stay_as_they_were(self):
        for value in ([(0, BLANK)], ([0, BLANK],), {0: [BLANK]}):
            before = copy.deepcopy(value)
            for ask in WITH_WRITES + [lambda some: put_all((BLANK,) * 4, some), lambda some: put_all(some, ())]:
                with self.assertRaises((BadWrites, BadImage)):
                    ask(value)
            self.assertEqual(before, value)


class Keepings(unittest.TestCase):
    def test_kept(self):
        image = (BLANK,) * 8
        for keeping, told in [
            ((0, 0, 0), {}), ((1, 2, 3), {0: data(4), 4: data(6), 7: data(5)}), ((-1, -1, -1), {0: None, 4: None, 7: None}),
            ((0, 1, 1), {4: data(2), 7: data(1)}), ((1, -1, 2), {0: data(4), 4: None, 7: data(3)}),
        ]:
            self.assertEqual(tuple([told.get(number, BLANK) for number in range(8)]), kept(image, WRITES, keeping))
        self.assertEqual((None,) * 4 + (data(2),) + (None,) * 3, kept((None,) * 8, WRITES, (0, 1, 0)))
        self.assertEqual(put_all(image, WRITES), kept(image, WRITES, times_written(WRITES)))

    def test_no_keepings(self):
        image = (BLANK,) * 8
        for value in ODD + ["", "000", (), (0, 0), (0, 0, 0, 0), [0, 0, 0], {0: 0, 1: 1, 2: 2}, deep(5000)]:
            with self.assertRaises(BadKeeping) as caught:
                kept(image, WRITES, value)
            self.assertEqual({"index": None}, caught.exception.__dict__)
        times = (1, 2, 3)
        for index in range(3):
            for value in ODD + ODD_TUPLES + ["", "0", -2, times[index] + 1, 10 ** 30, deep(5000)]:
                if value is True or value is False or not isinstance(value, int) or not -1 <= value <= times[index]:
                    keeping = [0, 0, 0]
                    keeping[index] = value
                    for at in range(index + 1, 3):
                        keeping[at] = None
                    with self.assertRaises(BadKeeping) as caught:
                        kept(image, WRITES, tuple(keeping))
                    self.assertEqual({"index": index}, caught.exception.__dict__)
        with self.assertRaises(BadKeeping):
            kept(image, (), (0,))

    def test_the_first_wrong_argument(self):
        with self.assertRaises(BadImage):
            kept(None, None, None)
        with self.assertRaises(BadWrites):
            kept((BLANK,) * 4, ((4, BLANK),), None)

    def test_how_many(self):
        self.assertEqual(1, count_keepings(()))
        self.assertEqual(3, count_keepings(((0, BLANK),)))
        self.assertEqual(3 * 4 * 5, count_keepings(WRITES))
        self.assertEqual(3 ** 250, count_keepings(tuple([(number, BLANK) for number in range(250)])))
        self.assertEqual(2002, count_keepings(((0, BLANK),) * 2000))

    def test_keeping_by(self):
        for numbers, told in [
            ((0, 0, 0), (-1, -1, -1)), ((1, 1, 1), (0, 0, 0)), ((2, 3, 4), (1, 2, 3)), ((3, 4, 5), (-1, -1, -1)),
            ((2,), (1, 1, 1)), ((7,), (0, 2, 1)), ((5, 2), (1, 1, -1)), ((1, 2, 3, 4), (0, 1, 2)),
            ((10 ** 30, 10 ** 30 + 1, 10 ** 30), (0, 0, -1)),
        ]:
            self.assertEqual(told, keeping_by(WRITES, numbers))
        self.assertEqual((), keeping_by((), (5,)))
        many = tuple([(number, BLANK) for number in range(250)])
        self.assertEqual(tuple([number % 3 - 1 for number in range(250)]), keeping_by(many, tuple(range(300))))

    def test_each_keeping_is_told(self):
        found = {keeping_by(WRITES, (a, b, c)) for a in range(3) for b in range(4) for c in range(5)}
        self.assertEqual(count_keepings(WRITES), len(found))
        for keeping in found:
            self.assertEqual(8, len(kept((BLANK,) * 8, WRITES, keeping)))

    def test_wrong_numbers(self):
        for value in ODD + [(item,) for item in ODD if not isinstance(item, int) or isinstance(item, bool)] + [
            (), "", "1", [1], {1: 1}, (-1,), (0, -1), (0, None), (0, True), (False,), (1, "1"), (0,) * 301, deep(5000),
        ]:
            for writes in ((), WRITES):
                with self.assertRaises(BadNumber):
                    keeping_by(writes, value)
        self.assertEqual((-1, -1, -1), keeping_by(WRITES, (0,) * 300))


if __name__ == "__main__":
    unittest.main()
