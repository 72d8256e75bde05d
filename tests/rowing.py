"""Rows of deeds for tests: random ones, and some that have many pasts."""

from keptanyhow.deeds import done
from tests.nested import random_let_by

SHORT = ["/a", "/b", "/a/a", "/a/b", "/b/a", "/a/a/a"]


def random_row(chance, synced, many, ways):
    """The tree behind some random deeds, and a tuple of random deeds done on it."""
    tree = ()
    for _ in range(synced):
        tree = done(tree, random_let_by(chance, tree, ways))
    deeds, behind = [], tree
    for _ in range(many):
        deeds.append(random_let_by(chance, behind, ways))
        behind = done(behind, deeds[-1])
    return tree, tuple(deeds)


def chains(*lengths, folder=""):
    """Deeds on a file for each length, as many on each; each deed leans on all earlier ones on the same file."""
    deeds = []
    for letter, length in zip("abcdefghijklmnopqrstuvwxyz", lengths):
        deeds.append(("file", folder + "/" + letter, ""))
        deeds += [("write", folder + "/" + letter, 0, "x" * k) for k in range(1, length)]
    return tuple(deeds)


# A row with n deeds in each chain has n + 1 pasts for it, all chosen one by one.
JUST_3000 = chains(4, 4, 4, 3, 2, 1)
# Without the folder nothing is left, and with it the pasts of the others.
MORE_THAN_3000 = (("folder", "/d"),) + chains(4, 4, 4, 3, 2, 1, folder="/d")
SIXTY = tuple([("file", "/" + one + other, "") for one in "abcde" for other in "abcdefghijkl"])
