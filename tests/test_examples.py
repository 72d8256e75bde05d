"""The examples of the interface, as they stand in DOC.md."""

import unittest

from tests.examples import parts_of, run_examples

WAYS = r'''
>>> from keptanyhow.ways import above, last_name, lies_below, names_in, way_of
>>> [names_in("/a/bc"), way_of(("a", "bc")), above("/a/bc"), last_name("/a/bc"), lies_below("/a/bc", "/a")]
[('a', 'bc'), '/a/bc', '/a', 'bc', True]
>>> above("/")
raises BadWay
'''

TREES = r'''
>>> from keptanyhow.trees import inside, is_tree, reads, size_of_tree, stands, ways_of_file
>>> tree = (("/a", "folder"), ("/a/f", "file", "hi"), ("/g", "same", "/a/f"))
>>> [stands(tree, "/a"), reads(tree, "/g"), inside(tree, "/a"), ways_of_file(tree, "/g"), size_of_tree(tree), is_tree(tree[1:])]
['folder', 'hi', ('f',), ('/a/f', '/g'), (1, 1, 2), False]
>>> reads(tree, "/a")
raises NotFile
'''

DEEDS = r'''
>>> from keptanyhow.deeds import changes, done, done_all, is_deed, let_by
>>> [done((), ("folder", "/a")), done_all((), (("file", "/f", "one"), ("file", "/t", "two"), ("move", "/t", "/f"))), changes((("/f", "file", "hi"),), ("cut", "/f", 1)), let_by((), ("drop", "/a")), is_deed(("bundle", (("drop", "/a"),)))]
[(('/a', 'folder'),), (('/f', 'file', 'two'),), ((('/f', 'file', 'hi'),), (('/f', 'file', 'h'),)), False, True]
>>> done((), ("drop", "/a"))
raises NotThere
>>> done((("/a", "folder"),), ("move", "/a", "/a/b"))
raises Inside
'''

OCTETS = r'''
>>> from keptanyhow.octets import bytes_number, bytes_text, check, number_bytes, text_bytes, with_check, without_check
>>> [number_bytes(700, 2), bytes_number((2, 188)), text_bytes("ab"), bytes_text((97, 98)), check((1, 2, 3)), with_check((1, 2)), without_check((1, 2, 0, 3, 0, 5)), without_check((1, 3, 0, 3, 0, 5))]
[(2, 188), 700, (97, 98), 'ab', (6, 14), (1, 2, 0, 3, 0, 5), (1, 2), None]
'''

PAGES = r'''
>>> from keptanyhow.pages import told_page, written_page
>>> [written_page(("head", 0, 3, 2, 0))[:8], told_page((0,) * 64), told_page(None), told_page(written_page(("data", 1, 7, 0, "hi")))]
[(1, 0, 0, 0, 3, 2, 0, 0), ('blank',), ('bad',), ('data', 1, 7, 0, 'hi')]
>>> written_page(("data", 1, 7, 60, "hi"))
raises BadTold
'''


class Examples(unittest.TestCase):
    def test_each_line_is_taken(self):
        self.assertEqual([3, 4, 4, 2, 3], [len(parts_of(text)) for text in (WAYS, TREES, DEEDS, OCTETS, PAGES)])

    def test_ways(self):
        run_examples(self, WAYS)

    def test_trees(self):
        run_examples(self, TREES)

    def test_deeds(self):
        run_examples(self, DEEDS)

    def test_octets(self):
        run_examples(self, OCTETS)

    def test_pages(self):
        run_examples(self, PAGES)


if __name__ == "__main__":
    unittest.main()
