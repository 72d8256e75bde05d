"""Needs: what the deeds of a row lean on, and what can be left of them (points 30 to 33)."""

from keptanyhow.bits import bits_of, numbers_of
from keptanyhow.deeds import tree_behind
from keptanyhow.errors import BadNumber
from keptanyhow.limits import is_number
from keptanyhow.pasts import all_pasts, check_past, check_places, is_past_of, many_pasts, trees_by_past, unlike_trees
from keptanyhow.rows import row_checked
from keptanyhow.trees import check_tree


def end(tree, deeds):
    """The tree behind all deeds of a row."""
    return row_checked(tree, deeds).last


def leans(tree, deeds):
    """The tuple, for each deed, of the ascending tuple of those it leans on."""
    return tuple([tuple(numbers_of(bits)) for bits in row_checked(tree, deeds).leaning])


def needs(tree, deeds):
    """The tuple, for each deed, of the ascending tuple of all that it needs."""
    return tuple([tuple(numbers_of(bits)) for bits in row_checked(tree, deeds).needed])


def lost_with(tree, deeds, place):
    """The ascending tuple of a deed and all that need it."""
    row = row_checked(tree, deeds)
    if not is_number(place, 0, len(row.row) - 1):
        raise BadNumber("no place of the row")
    return (place,) + tuple(numbers_of(row.bits_needing(place)))


def is_past(tree, deeds, value):
    """Whether a value is a past."""
    return is_past_of(row_checked(tree, deeds), value)


def pasts(tree, deeds):
    """The ascending list of all pasts."""
    return all_pasts(row_checked(tree, deeds))


def count_pasts(tree, deeds):
    """The number of all pasts, however many there are."""
    return many_pasts(row_checked(tree, deeds))


def least_with(tree, deeds, places):
    """The least past that holds all of some places."""
    row = row_checked(tree, deeds)
    check_places(row, places)
    return tuple(numbers_of(row.bits_with(bits_of(places))))


def greatest_without(tree, deeds, places):
    """The greatest past that holds none of some places."""
    row = row_checked(tree, deeds)
    check_places(row, places)
    lost = bits_of(places)
    for place in places:
        lost |= row.bits_needing(place)
    return tuple(numbers_of(bits_of(list(range(len(row.row)))) & ~lost))


def tree_of(tree, deeds, past):
    """The tree behind the deeds of a past alone."""
    row = row_checked(tree, deeds)
    check_past(row, past)
    return tree_behind(tree, tuple([deeds[place] for place in past]))


def trees(tree, deeds):
    """The ascending list of the unlike trees of all pasts."""
    return unlike_trees(row_checked(tree, deeds))


def past_for(tree, deeds, other):
    """The least past whose tree is another one, None if there is none."""
    row = row_checked(tree, deeds)
    check_tree(other)
    for past, behind in trees_by_past(row).items():
        if behind == other:
            return past
    return None
