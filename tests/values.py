"""Values of many kinds that are neither ways, nor names, nor tuples of these, nor trees."""

from keptanyhow.errors import BadTree, BadWay, KeepError


def deep(depth):
    """A tuple within a tuple, and so on."""
    value = ()
    for _ in range(depth):
        value = (value,)
    return value


def endless():
    """A list that contains itself."""
    value = []
    value.append(value)
    return value


ODD = [
    None, True, False, 0, 1, -1, 10 ** 30, [], [[]], ["/a"], ["a"], {}, {"/a": "folder"}, {1: 2}, endless(),
    KeepError(), BadWay("/a"), BadTree(0),
]
ODD_TUPLES = [(value,) for value in ODD] + [("",), ("A",), (("a",),), (("a", "folder"),), deep(5000), ("a", ["a"])]
