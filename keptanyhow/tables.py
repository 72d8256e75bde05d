"""Tables: what can be asked of a row and what it tells, and which rows cannot be told apart (points 38 to 41)."""

from keptanyhow.asks import asked_of, bits_settled, partings, table_bits, ways_told
from keptanyhow.bits import bits_of, lie_within
from keptanyhow.errors import BadNumber, BadWays, NotMade
from keptanyhow.limits import is_number
from keptanyhow.pasts import check_past
from keptanyhow.rows import row_checked
from keptanyhow.trees import check_tree, kind_at
from keptanyhow.ways import LETTERS, folder_of, is_way, own_name, way_below

MARK = "mark"


def asked_ways(tree, deeds):
    """The ascending tuple of the asked ways of a row."""
    return asked_of(row_checked(tree, deeds))


def settled_ways(tree, deeds, past):
    """The ascending tuple of the asked ways that are settled in a past."""
    row = row_checked(tree, deeds)
    check_past(row, past)
    ways = asked_of(row)
    return ways_told(ways, bits_settled([row.bits_at(way) for way in ways], bits_of(past)))


def table(tree, deeds):
    """The ascending tuple of the pairs of a tree that can come up and the greatest tuples of ways that are settled."""
    row = row_checked(tree, deeds)
    ways = asked_of(row)
    found = table_bits(row, ways)
    return tuple([(behind, tuple(sorted([ways_told(ways, bits) for bits in found[behind]]))) for behind in found])


def partings_of(one_tree, one_deeds, tree, deeds):
    """The list of all that parts two rows, None if the trees at their ends are not the same."""
    one = row_checked(one_tree, one_deeds)
    other = row_checked(tree, deeds)
    if one.last != other.last:
        return None
    ways = sorted(set(asked_of(one) + asked_of(other)))
    # A way that is not asked in a row needs what the way above it does: this is what bits_at tells of it.
    one_table = table_bits(one, ways)
    other_table = table_bits(other, ways)
    return partings(one_table, other_table, ways) + partings(other_table, one_table, ways)


def alike(one_tree, one_deeds, tree, deeds):
    """Whether two rows have the same tree at their end, and the same common table."""
    return partings_of(one_tree, one_deeds, tree, deeds) == []


def parting(one_tree, one_deeds, tree, deeds):
    """The least pair of a tree and ways that parts two rows with the same tree at their end, None if there is none."""
    found = partings_of(one_tree, one_deeds, tree, deeds)
    return min(found) if found else None


def is_marked(way):
    """Whether the last name of a way begins with the word of new names."""
    return own_name(way).startswith(MARK)


def check_ways(tree, ways):
    """Raise BadWays for a value that is no tuple of at most 26 unlike ways that can be marked in a tree."""
    if not isinstance(ways, tuple) or len(ways) > len(LETTERS) or not all([is_way(way) for way in ways]):
        raise BadWays("no such tuple of ways")
    if len(set(ways)) != len(ways):
        raise BadWays("a way stands there twice")
    if not all([kind_at(tree, folder_of(way)) == "folder" for way in ways]):
        raise BadWays("no folder above a way")


def mark_for(tree, way, name):
    """The deed that marks a way of a tree by a new name."""
    kind = kind_at(tree, way)
    if kind == "file":
        return ("link", way, way_below(folder_of(way), name))
    new = ("file", way_below(way, name), "")
    return new if kind == "folder" else ("bundle", (("folder", way), new))


def marks(tree, ways):
    """The tuple of deeds, one for each way, by which rows that end in a tree are told apart."""
    check_tree(tree)
    check_ways(tree, ways)
    # The names above these ways are names of the tree.
    if any([is_marked(line[0]) for line in tree]) or any([is_marked(way) for way in ways]):
        raise NotMade("a name begins with mark")
    return tuple([mark_for(tree, way, MARK + letter) for way, letter in zip(ways, LETTERS)])


def share_something(row, one, other):
    """Whether one of two deeds of a row writes a thing that the other one writes or looks at."""
    return row.wrote[one] & row.touched[other] != 0 or row.wrote[other] & row.touched[one] != 0


def exchanged(tree, deeds, place):
    """The row of deeds in which that at a place and the next one, which share nothing, are exchanged."""
    row = row_checked(tree, deeds)
    if not is_number(place, 0, len(deeds) - 2):
        raise BadNumber("no place of a deed with a next one")
    if share_something(row, place, place + 1):
        raise NotMade("the deeds share something")
    return deeds[:place] + (deeds[place + 1], deeds[place]) + deeds[place + 2:]


def plain_row(tree, deeds):
    """The least of all rows of deeds that come by exchanges."""
    row = row_checked(tree, deeds)
    # Exchanges do not change what a deed writes and looks at, so two deeds that share something keep their order.
    ahead = []
    for number in range(len(deeds)):
        ahead.append(bits_of([other for other in range(number) if share_something(row, other, number)]))
    taken = []
    left = list(range(len(deeds)))
    while left:
        bits = bits_of(taken)
        least = min([(deeds[number], number) for number in left if lie_within(ahead[number], bits)])[1]
        taken.append(least)
        left.remove(least)
    return tuple([deeds[number] for number in taken])
