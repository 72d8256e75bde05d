"""The examples of the interface, as they stand in DOC.md."""

import unittest

from tests.examples import parts_of, run_examples

WAYS = r'''
>>> from keptanyhow.ways import above, last_name, lies_below, names_in, way_of
>>> [names_in("/a/bc"), way_of(("a", "bc")), above("/a/bc"), last_name("/a/bc"), lies_below("/a/bc", "/a")]
[('a', 'bc'), '/a/bc', '/a', 'bc', True]
>>> above("/")
raises BadWay
'''

TREES = r'''
>>> from keptanyhow.trees import inside, is_tree, reads, size_of_tree, stands, ways_of_file
>>> tree = (("/a", "folder"), ("/a/f", "file", "hi"), ("/g", "same", "/a/f"))
>>> [stands(tree, "/a"), reads(tree, "/g"), inside(tree, "/a"), ways_of_file(tree, "/g"), size_of_tree(tree), is_tree(tree[1:])]
['folder', 'hi', ('f',), ('/a/f', '/g'), (1, 1, 2), False]
>>> reads(tree, "/a")
raises NotFile
'''


class Examples(unittest.TestCase):
    def test_each_line_is_taken(self):
        self.assertEqual([3, 4], [len(parts_of(text)) for text in (WAYS, TREES)])

    def test_ways(self):
        run_examples(self, WAYS)

    def test_trees(self):
        run_examples(self, TREES)


if __name__ == "__main__":
    unittest.main()
