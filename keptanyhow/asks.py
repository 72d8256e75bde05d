"""Asks: the ways by which a next deed can lean on the deeds of a row, and what each past settles (points 38 to 40)."""

from keptanyhow.bits import bits_of, lie_within, numbers_of
from keptanyhow.pasts import trees_by_past
from keptanyhow.ways import ROOT, way_below


def asked_of(row):
    """The ascending tuple of the asked ways of a row."""
    found = [ROOT]
    folders = {0: ROOT}
    for line in row.last:
        found.append(line[0])
        if line[1] == "folder":
            folders[row.thing_at(line[0])] = line[0]
    for place, _, _ in row.gone:
        if place not in row.places and place[0] in folders:
            found.append(way_below(folders[place[0]], place[1]))
    return tuple(sorted(set(found)))


def bits_settled(leaning, bits):
    """The places of those ways that are settled by some deeds, leaning telling for each what it needs of them."""
    return bits_of([index for index, needed in enumerate(leaning) if lie_within(needed, bits)])


def ways_told(ways, bits):
    """The tuple of those ways whose places are told by bits."""
    return tuple([ways[index] for index in numbers_of(bits)])


def greatest_among(many):
    """The list of those of many unlike bits that are not within others of them."""
    by_size = {}
    for bits in many:
        by_size.setdefault(len(numbers_of(bits)), []).append(bits)
    found = []
    for size in sorted(by_size, reverse=True):
        # Unlike ones of one size do not lie within each other.
        more = [one for one in by_size[size] if not any([lie_within(one, other) for other in found])]
        found.extend(more)
    return found


def table_bits(row, ways):
    """For each tree that can come up of a row, the greatest of the ways settled by its pasts, told by bits."""
    leaning = [row.bits_at(way) for way in ways]
    found = {}
    for past, tree in trees_by_past(row).items():
        if tree not in found:
            found[tree] = {}
        found[tree][bits_settled(leaning, bits_of(past))] = True
    return {behind: greatest_among(list(found[behind])) for behind in sorted(found)}


def partings(one, other, ways):
    """The list of the pairs of a tree of one table and ways that no tuple of the other table for this tree holds."""
    found = []
    for tree in one:
        others = other.get(tree, [])
        for bits in one[tree]:
            if not any([lie_within(bits, more) for more in others]):
                found.append((tree, ways_told(ways, bits)))
    return found
