"""The examples of the interface, as they stand in DOC.md."""

import builtins
import doctest
import os
import unittest

from tests.examples import parts_of, run_examples

WAYS = r'''
>>> from keptanyhow.ways import above, last_name, lies_below, names_in, way_of
>>> [names_in("/a/bc"), way_of(("a", "bc")), above("/a/bc"), last_name("/a/bc"), lies_below("/a/bc", "/a")]
[('a', 'bc'), '/a/bc', '/a', 'bc', True]
>>> above("/")
raises BadWay
'''

TREES = r'''
>>> from keptanyhow.trees import inside, is_tree, reads, size_of_tree, stands, ways_of_file
>>> tree = (("/a", "folder"), ("/a/f", "file", "hi"), ("/g", "same", "/a/f"))
>>> [stands(tree, "/a"), reads(tree, "/g"), inside(tree, "/a"), ways_of_file(tree, "/g"), size_of_tree(tree), is_tree(tree[1:])]
['folder', 'hi', ('f',), ('/a/f', '/g'), (1, 1, 2), False]
>>> reads(tree, "/a")
raises NotFile
'''

DEEDS = r'''
>>> from keptanyhow.deeds import changes, done, done_all, is_deed, let_by
>>> [done((), ("folder", "/a")), done_all((), (("file", "/f", "one"), ("file", "/t", "two"), ("move", "/t", "/f"))), changes((("/f", "file", "hi"),), ("cut", "/f", 1)), let_by((), ("drop", "/a")), is_deed(("bundle", (("drop", "/a"),)))]
[(('/a', 'folder'),), (('/f', 'file', 'two'),), ((('/f', 'file', 'hi'),), (('/f', 'file', 'h'),)), False, True]
>>> done((), ("drop", "/a"))
raises NotThere
>>> done((("/a", "folder"),), ("move", "/a", "/a/b"))
raises Inside
'''

OCTETS = r'''
>>> from keptanyhow.octets import bytes_number, bytes_text, check, number_bytes, text_bytes, with_check, without_check
>>> [number_bytes(700, 2), bytes_number((2, 188)), text_bytes("ab"), bytes_text((97, 98)), check((1, 2, 3)), with_check((1, 2)), without_check((1, 2, 0, 3, 0, 5)), without_check((1, 3, 0, 3, 0, 5))]
[(2, 188), 700, (97, 98), 'ab', (6, 14), (1, 2, 0, 3, 0, 5), (1, 2), None]
'''

PAGES = r'''
>>> from keptanyhow.pages import told_page, written_page
>>> [written_page(("head", 0, 3, 2, 0))[:8], told_page((0,) * 64), told_page(None), told_page(written_page(("data", 1, 7, 0, "hi")))]
[(1, 0, 0, 0, 3, 2, 0, 0), ('blank',), ('bad',), ('data', 1, 7, 0, 'hi')]
>>> written_page(("data", 1, 7, 60, "hi"))
raises BadTold
'''

CARDS = r'''
>>> from keptanyhow.cards import bytes_card, card_bytes, card_pages, is_card, tails_needed
>>> card = (1, 1, "folder", ((0, "a"),), 0, (), ((2, 5),))
>>> [card_bytes(card), bytes_card(1, 1, (1, 1, 0, 1, 97, 0, 0, 0)), tails_needed(card), len(card_pages(1, card, ())), is_card(card[:6])]
[(1, 1, 0, 1, 97, 0, 0, 1, 2, 0, 0, 5), (1, 1, 'folder', ((0, 'a'),), 0, (), ()), 0, 1, False]
'''

IMAGES = r'''
>>> from keptanyhow.images import count_keepings, kept, keeping_by, new_image, put_all, times_written, written_numbers
>>> writes = ((4, (0,) * 64), (4, (0,) * 64), (5, (0,) * 64))
>>> [len(new_image((2, 3))), written_numbers(writes), times_written(writes), count_keepings(writes), keeping_by(writes, (5, 2)), kept(new_image((2, 3)), writes, (-1, 0))[4]]
[9, (4, 5), (2, 1), 12, (0, 1), None]
>>> put_all(new_image((1, 0)), ((4, (0,) * 64),))
raises BadWrites(index=0)
'''

SCANS = r'''
>>> from keptanyhow.images import new_image
>>> from keptanyhow.scans import cards_up, faults, head_of, settling, size_of, tree_up
>>> [head_of(new_image((2, 3))), size_of(new_image((2, 3))), cards_up(new_image((2, 3))), tree_up(new_image((2, 3))), faults(new_image((2, 3))[:8]), settling(new_image((1, 0)))[0]]
[(0, 0, 0), (2, 3), ((0, 0, 'folder', (), 0, (), ()), (0, 0, 'none', (), 0, (), ())), (), (('head',),), ()]
'''

DRIVES = r'''
>>> from keptanyhow.images import new_image
>>> from keptanyhow.drives import Drive
>>> drive = Drive(new_image((3, 4)))
>>> [drive.do(("file", "/f", "hi")), drive.tree, drive.stamp, drive.period, drive.room, drive.cards[1], drive.unsynced("/f")]
[None, (('/f', 'file', 'hi'),), 1, 2, (1, 3), (1, 2, 'file', ((0, 'f'),), 2, ((8, 1),), ()), True]
>>> [drive.cut((0, 1)), drive.tree, drive.do(("folder", "/a")), drive.sync(), drive.do(("drop", "/a")), drive.cut((-1,)), drive.tree, drive.deeds]
[None, (), None, None, None, None, (('/a', 'folder'),), ()]
>>> drive.do(("drop", "/f"))
raises NotThere
'''

NEEDS = r'''
>>> from keptanyhow.needs import count_pasts, end, greatest_without, least_with, lost_with, needs, past_for, pasts, trees
>>> deeds = (("file", "/a", "x"), ("file", "/b", "y"), ("move", "/a", "/b"))
>>> [end((), deeds), needs((), deeds), pasts((), deeds), count_pasts((), deeds), lost_with((), deeds, 0), least_with((), deeds, (2,)), greatest_without((), deeds, (0,)), past_for((), deeds, (("/b", "file", "y"),)), len(trees((), deeds))]
[(('/b', 'file', 'x'),), ((), (), (0, 1)), [(), (0,), (0, 1), (0, 1, 2), (1,)], 5, (0, 2), (0, 1, 2), (1,), (1,), 5]
>>> pasts((), (("drop", "/a"),))
raises BadDeeds(index=0)
'''

CUTS = r'''
>>> from keptanyhow.cuts import image_of, joined, keeping_for, past_by
>>> deeds = (("file", "/a", "x"), ("file", "/b", "y"))
>>> [keeping_for((3, 4), (), deeds, (1,)), past_by((3, 4), (), deeds, (0, 1, 0, 1)), past_by((3, 4), (), deeds, (1, 1, -1, 1)), joined(image_of((1, 0), ()), (None,) * 4) == image_of((1, 0), ())]
[(0, 1, 0, 1), (1,), (1,), True]
>>> image_of((1, 0), (("/a", "folder"),))
raises NoRoom(what='things')
'''

PROMISES = r'''
>>> from keptanyhow.promises import apart_promises, fewest_syncs, first_break, holds, kept_promises, parted_by, surely
>>> deeds = (("file", "/a", "x"), ("file", "/b", "y"))
>>> wish = ("either", ("not", ("there", "/b")), ("there", "/a"))
>>> [holds((), wish), surely((), deeds, wish), first_break((), deeds, wish), kept_promises((), deeds, ((0, 1),)), fewest_syncs((), deeds, ((0, 1),)), apart_promises((), deeds, ((0, 1),)), parted_by(deeds, (0,)), surely((), (("bundle", deeds),), wish)]
[True, False, (1,), (False,), (0,), (0,), ((('file', '/a', 'x'),), (('file', '/b', 'y'),)), True]
'''

TABLES = r'''
>>> from keptanyhow.tables import alike, asked_ways, exchanged, marks, parting, plain_row, settled_ways, table
>>> deeds = (("file", "/a", "x"), ("file", "/b", "y"))
>>> [asked_ways((), (("file", "/a", "x"), ("move", "/a", "/b"))), settled_ways((), deeds, (1,)), table((), deeds[:1]), alike((), deeds, (), deeds[::-1]), parting((), deeds, (), (("bundle", deeds),)), plain_row((), deeds[::-1]) == deeds]
[('/', '/a', '/b'), ('/', '/b'), (((), (('/',),)), ((('/a', 'file', 'x'),), (('/', '/a'),))), True, ((('/a', 'file', 'x'),), ('/', '/a')), True]
>>> [marks((("/a", "file", "x"),), ("/", "/a", "/b")), exchanged((), deeds, 0) == deeds[::-1]]
[(('file', '/marka', ''), ('link', '/a', '/markb'), ('bundle', (('folder', '/b'), ('file', '/b/markc', '')))), True]
'''

LIVES = r'''
>>> from keptanyhow.lives import counted, deeds_between, live, story
>>> events = (("file", "/a", "x"), ("sync",), ("file", "/b", "y"), ("cut", (0,), 1))
>>> [counted((3, 9), events), story((3, 9), events)[3:], live((3, 9), events).period, deeds_between((("/a", "file", "x"),), (("/a", "folder"),))]
[(('file', '/a', 'x'),), [(('/a', 'file', 'x'), ('/b', 'file', 'y')), (('/a', 'file', 'x'),)], 4, (('drop', '/a'), ('folder', '/a'))]
'''

TEXTS = r'''
>>> from keptanyhow.texts import read_deed, read_image, read_tree, write_deed, write_tree
>>> [write_tree((("/a", "folder"), ("/a/f", "file", "hi"), ("/g", "same", "/a/f"))), read_tree("/f = "), write_deed(("write", "/f", 3, "x y")), read_deed("one ; drop /a"), read_deed("cut /f 2"), read_image(".\n-\n.\n.")[1]]
['/a/\n/a/f = hi\n/g > /a/f', (('/f', 'file', ''),), 'write /f 3 = x y', ('bundle', (('drop', '/a'),)), ('cut', '/f', 2), None]
>>> read_deed("drop")
raises InvalidText(line=1)
'''

DESKS = r'''
>>> from keptanyhow.desks import Desk
>>> desk = Desk((3, 6))
>>> [desk.run("file /f = hi"), desk.run("trees"), desk.run("sync"), desk.run("write /f 0 = HO"), desk.run("lost /f"), desk.run("read /f"), desk.run("cut 0"), desk.run("read /f"), desk.run("room")]
[None, '2', None, None, '0', 'HO', None, 'hi', '1 5']
>>> [desk.undo(), desk.tree, desk.lines, desk.redo(), desk.tree]
[None, (('/f', 'file', 'HO'),), ('file /f = hi', 'sync', 'write /f 0 = HO'), None, (('/f', 'file', 'hi'),)]
>>> desk.run("drop")
raises InvalidText(line=1)
'''


class Examples(unittest.TestCase):
    def test_each_line_is_taken(self):
        texts = (WAYS, TREES, DEEDS, OCTETS, PAGES, CARDS, IMAGES, SCANS, DRIVES, NEEDS, CUTS, PROMISES, TABLES, LIVES, TEXTS, DESKS)
        self.assertEqual([3, 4, 4, 2, 3, 3, 4, 3, 6, 4, 4, 4, 4, 3, 3, 5], [len(parts_of(text)) for text in texts])

    def test_ways(self):
        run_examples(self, WAYS)

    def test_trees(self):
        run_examples(self, TREES)

    def test_deeds(self):
        run_examples(self, DEEDS)

    def test_octets(self):
        run_examples(self, OCTETS)

    def test_pages(self):
        run_examples(self, PAGES)

    def test_cards(self):
        run_examples(self, CARDS)

    def test_images(self):
        run_examples(self, IMAGES)

    def test_scans(self):
        run_examples(self, SCANS)

    def test_drives(self):
        run_examples(self, DRIVES)

    def test_needs(self):
        run_examples(self, NEEDS)

    def test_cuts(self):
        run_examples(self, CUTS)

    def test_promises(self):
        run_examples(self, PROMISES)

    def test_tables(self):
        run_examples(self, TABLES)

    def test_lives(self):
        run_examples(self, LIVES)

    def test_texts(self):
        run_examples(self, TEXTS)

    def test_desks(self):
        run_examples(self, DESKS)

    def test_the_ones_of_the_readme(self):
        path = os.path.join(os.path.dirname(os.path.dirname(os.path.abspath(__file__))), "README.md")
        with open(path, encoding="utf-8") as file:
            text = file.read().replace("```", "")
        told = []
        # Examples that are run so leave their last value there.
        self.addCleanup(vars(builtins).pop, "_", None)
        test = doctest.DocTestParser().get_doctest(text, {}, "README", path, 0)
        found = doctest.DocTestRunner().run(test, out=told.append)
        self.assertEqual((0, []), (found.failed, told))
        self.assertGreater(found.attempted, 20)


if __name__ == "__main__":
    unittest.main()
