"""Pasts: the deeds of a row that can be what is left of it, and their trees (points 32 and 33)."""

from keptanyhow.bits import bits_of, lie_within, numbers_of
from keptanyhow.deeds import tree_behind
from keptanyhow.errors import BadPast, BadPlaces, TooMany
from keptanyhow.limits import are_ascending

MOST_PASTS = 3000


def is_past_of(row, value):
    """Whether a value is a past of a row."""
    if not are_ascending(value, len(row.row) - 1):
        return False
    bits = bits_of(value)
    return row.bits_with(bits) == bits


def check_past(row, past):
    """Raise BadPast for a value that is no past of a row."""
    if not is_past_of(row, past):
        raise BadPast("no past")


def check_places(row, places):
    """Raise BadPlaces for a value that is no ascending tuple of places of a row."""
    if not are_ascending(places, len(row.row) - 1):
        raise BadPlaces("no ascending tuple of places")


def all_pasts(row):
    """The ascending list of all pasts of a row."""
    found = []
    begun = [()]
    # What is left of a past without its last deed is a past, too: so each is found behind one that is less.
    while begun:
        past = begun.pop()
        found.append(past)
        if len(found) > MOST_PASTS:
            raise TooMany(MOST_PASTS)
        bits = bits_of(past)
        first = past[-1] + 1 if past else 0
        for number in range(len(row.row) - 1, first - 1, -1):
            if lie_within(row.needed[number], bits):
                begun.append(past + (number,))
    return found


def trees_by_past(row):
    """The tree of each past of a row, the pasts in ascending order."""
    found = {}
    for past in all_pasts(row):
        # The past without its last deed came before.
        found[past] = tree_behind(found[past[:-1]], (row.row[past[-1]],)) if past else row.base
    return found


def unlike_trees(row):
    """The ascending list of the unlike trees of all pasts of a row."""
    return sorted(set(list(trees_by_past(row).values())))


class Counter:
    """How many pasts rows have, part by part: deeds that have nothing to do with one another are counted alone."""

    def __init__(self, row):
        self.below = list(row.needed)
        self.over = [row.bits_needing(number) for number in range(len(row.row))]
        self.known = {}

    def many_in(self, bits):
        """The number of the pasts of some deeds, if there were no others."""
        if bits not in self.known:
            many = 1
            rest = bits
            while rest > 0:
                part = self.joined_to(rest & -rest, rest)
                many = many * self.many_in_part(part)
                rest ^= part
            self.known[bits] = many
        return self.known[bits]

    def many_in_part(self, part):
        """The number of the pasts with the deed that needs, or is needed by, the most others, and of those without."""
        number = self.busiest(part)
        bit = 1 << number
        with_it = part & ~(self.below[number] | bit)
        without_it = part & ~(self.over[number] | bit)
        return self.many_in(with_it) + self.many_in(without_it)

    def joined_to(self, start, bits):
        """Of some deeds, all that lead from others to the first of them by needs."""
        found = start
        fresh = start
        while fresh > 0:
            near = 0
            for number in numbers_of(fresh):
                near |= self.below[number] | self.over[number]
            fresh = near & bits & ~found
            found |= fresh
        return found

    def busiest(self, part):
        """Of some deeds, the one that needs, or is needed by, the most others of them."""
        best = None
        most = -1
        for number in numbers_of(part):
            many = len(numbers_of((self.below[number] | self.over[number]) & part))
            if many > most:
                best = number
                most = many
        return best


def many_pasts(row):
    """The number of all pasts of a row."""
    return Counter(row).many_in(bits_of(list(range(len(row.row)))))
