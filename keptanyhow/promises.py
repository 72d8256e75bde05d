"""Promises: what holds wherever power goes, and where syncs are needed for it (points 35 to 37)."""

from keptanyhow.deeds import check_deeds
from keptanyhow.errors import BadGaps, BadPromises, BadWish
from keptanyhow.limits import are_ascending
from keptanyhow.pasts import trees_by_past
from keptanyhow.rows import MOST_IN_ROW, row_checked
from keptanyhow.trees import check_tree, kind_at, line_of_file
from keptanyhow.ways import is_contents, is_way

MOST_WITHIN = 5
MOST_PROMISES = 20
# How many wishes stand behind the word of those that are made of others.
WISHES_IN = {"not": 1, "both": 2, "either": 2}


def is_plain_wish(value):
    """Whether a tuple is a wish that has no other ones within it."""
    if value[0] == "there":
        return len(value) == 2 and is_way(value[1])
    return value[0] == "reads" and len(value) == 3 and is_way(value[1]) and is_contents(value[2])


def is_wish(value, most):
    """Whether a value is a wish, with at most so many wishes within one another."""
    if most == 0 or not isinstance(value, tuple) or len(value) == 0 or not isinstance(value[0], str):
        return False
    if value[0] not in WISHES_IN:
        return is_plain_wish(value)
    return len(value) == WISHES_IN[value[0]] + 1 and all([is_wish(item, most - 1) for item in value[1:]])


def check_wish(wish):
    """Raise BadWish for a value that is no wish."""
    if not is_wish(wish, MOST_WITHIN):
        raise BadWish("no wish")


def is_so(tree, wish):
    """Whether a wish holds in a tree, both being known to be such."""
    word = wish[0]
    if word == "there":
        return kind_at(tree, wish[1]) is not None
    if word == "reads":
        line = line_of_file(tree, wish[1])
        return line is not None and line[2] == wish[2]
    if word == "not":
        return not is_so(tree, wish[1])
    if word == "both":
        return is_so(tree, wish[1]) and is_so(tree, wish[2])
    return is_so(tree, wish[1]) or is_so(tree, wish[2])


def holds(tree, wish):
    """Whether a wish holds in a tree."""
    check_tree(tree)
    check_wish(wish)
    return is_so(tree, wish)


def surely(tree, deeds, wish):
    """Whether a wish holds in all trees that can come up."""
    return first_break(tree, deeds, wish) is None


def first_break(tree, deeds, wish):
    """The least past in whose tree a wish does not hold, None if there is none."""
    row = row_checked(tree, deeds)
    check_wish(wish)
    for past, behind in trees_by_past(row).items():
        if not is_so(behind, wish):
            return past
    return None


def check_promises(row, promises):
    """Raise BadPromises for a value that is no tuple of at most 20 promises."""
    if not isinstance(promises, tuple) or len(promises) > MOST_PROMISES:
        raise BadPromises(None)
    for index, promise in enumerate(promises):
        # Two places of which the first one is less are an ascending tuple.
        if not are_ascending(promise, len(row.row) - 1) or len(promise) != 2:
            raise BadPromises(index)


def kept_by_needs(tree, deeds, promises):
    """The list of whether each promise is kept by needs alone."""
    row = row_checked(tree, deeds)
    check_promises(row, promises)
    return [row.needed[later] >> earlier & 1 == 1 for earlier, later in promises]


def kept_promises(tree, deeds, promises):
    """The tuple of whether each promise is kept by needs alone."""
    return tuple(kept_by_needs(tree, deeds, promises))


def fewest_gaps(promises):
    """The least ascending tuple of the fewest gaps by which all promises are kept."""
    gaps = []
    # From the last promise on: a gap as early as this one lets it be keeps as many of the others as one gap can.
    for earlier, later in sorted(promises, reverse=True):
        if not gaps or later <= gaps[-1]:
            gaps.append(earlier)
    return tuple(gaps[::-1])


def are_apart(one, other):
    """Whether two promises have no gap in common."""
    return one[1] <= other[0] or other[1] <= one[0]


def fewest_syncs(tree, deeds, promises):
    """The least tuple of the fewest gaps by which all promises are kept that needs do not keep."""
    kept = kept_by_needs(tree, deeds, promises)
    return fewest_gaps([promise for promise, is_kept in zip(promises, kept) if not is_kept])


def apart_promises(tree, deeds, promises):
    """The least tuple of the places of as many promises, none kept by needs, that have no gap in common."""
    kept = kept_by_needs(tree, deeds, promises)
    left = [place for place, is_kept in enumerate(kept) if not is_kept]
    many = len(fewest_gaps([promises[place] for place in left]))
    taken = []
    for place in left:
        if all([are_apart(promises[place], promises[other]) for other in taken]):
            chosen = taken + [place]
            more = [promises[other] for other in left if other > place]
            for other in chosen:
                more = [promise for promise in more if are_apart(promise, promises[other])]
            # As many promises can be apart as gaps are needed for them.
            if len(chosen) + len(fewest_gaps(more)) == many:
                taken = chosen
    return tuple(taken)


def parted_by(deeds, gaps):
    """The tuple of the tuples of the deeds between syncs in some gaps."""
    check_deeds(deeds, MOST_IN_ROW)
    if not are_ascending(gaps, len(deeds) - 1):
        raise BadGaps("no ascending tuple of gaps")
    parts = []
    begin = 0
    for gap in gaps:
        parts.append(deeds[begin:gap + 1])
        begin = gap + 1
    return tuple(parts + [deeds[begin:]])
