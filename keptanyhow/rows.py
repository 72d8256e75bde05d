"""Rows: deeds that are done one after another since the last sync, and which lean on which (points 30 and 31)."""

from keptanyhow.acts import Act, many_made, play
from keptanyhow.bits import bits_of, numbers_of
from keptanyhow.deeds import is_deed, tree_behind
from keptanyhow.errors import BadDeeds, KeepError
from keptanyhow.trees import check_tree
from keptanyhow.ways import ROOT, folder_of, names_in, own_name

MOST_IN_ROW = 60


class Row:
    """Deeds done on a tree, where there is room for all; sets of them, and of things, are told by bits.

    For each deed, leaning has those it leans on, needed all that it needs, wrote the things that it writes, and touched
    these and the things that it looks at. For each thing, writers has the deeds that wrote it. gone tells what left
    places, as in an Act: the place, the thing, and the thing's writers up to the deed by which it left.
    """

    def __init__(self, tree):
        self.base = tree
        self.last = tree
        self.row = ()
        self.places = {}
        self.kinds = ["folder"]
        self.writers = [0]
        self.gone = []
        self.leaning = []
        self.needed = []
        self.wrote = []
        self.touched = []
        for line in tree:
            self.settle(line)

    def settle(self, line):
        """Put the thing of a line of the tree at its place."""
        place = (self.thing_at(folder_of(line[0])), own_name(line[0]))
        if line[1] == "same":
            self.places[place] = self.thing_at(line[2])
        else:
            self.places[place] = len(self.kinds)
            self.kinds.append(line[1])
            self.writers.append(0)

    def thing_at(self, way):
        """The thing that stands at a way."""
        thing = 0
        for name in names_in(way):
            thing = self.places[(thing, name)]
        return thing

    def follow(self, deed):
        """Do one more deed; one that is refused raises its error and changes nothing."""
        self.last = tree_behind(self.last, (deed,))
        act = self.act_with(many_made(deed))
        play(act, deed)
        self.places = act.places
        self.kinds = act.kinds
        self.writers.extend([0] * (len(act.kinds) - len(self.writers)))
        self.lean(self.bits_under(act))
        for thing in act.written:
            self.writers[thing] |= 1 << len(self.row)
        self.wrote.append(bits_of(act.written))
        self.touched.append(bits_of(list(act.written) + list(act.looked) + self.things_missed(act)))
        self.gone += [(place, thing, self.writers[thing]) for place, thing in act.left]
        self.row = self.row + (deed,)

    def act_with(self, many):
        """The act of a deed that makes so many things, which is not played yet."""
        first = len(self.kinds)
        kinds = self.kinds + ["none"] * many
        # What is written in files has no part in what leans on what.
        return Act(self.places, kinds, [""] * len(kinds), self.gone, list(range(first, first + many)))

    def things_missed(self, act):
        """The list of the things that left the places that an act looks at."""
        return [self.gone[index][1] for index in act.missed]

    def bits_under(self, act):
        """The earlier deeds on which an act leans."""
        bits = 0
        for thing in list(act.written) + list(act.looked):
            bits |= self.writers[thing]
        for index in act.missed:
            bits |= self.gone[index][2]
        return bits

    def bits_at(self, way):
        """The deeds on which a next one leans that looks at a way whose folder stands, and at the folders above it."""
        if way == ROOT:
            return 0
        act = self.act_with(0)
        act.look(way)
        return self.bits_under(act)

    def lean(self, bits):
        """Tell of the next deed which earlier ones it leans on."""
        self.leaning.append(bits)
        self.needed.append(self.bits_with(bits))

    def bits_with(self, bits):
        """Some deeds and all that they need."""
        found = bits
        for number in numbers_of(bits):
            found |= self.needed[number]
        return found

    def bits_needing(self, number):
        """The deeds that need a deed."""
        return bits_of([other for other in range(len(self.row)) if self.needed[other] >> number & 1 == 1])


def row_behind(tree, deeds):
    """The row of deeds that are known to be let by."""
    row = Row(tree)
    for deed in deeds:
        row.follow(deed)
    return row


def row_checked(tree, deeds):
    """The row of two arguments; BadTree and BadDeeds are raised for what is none."""
    check_tree(tree)
    if not isinstance(deeds, tuple) or len(deeds) > MOST_IN_ROW:
        raise BadDeeds(None)
    row = Row(tree)
    for index, deed in enumerate(deeds):
        if not is_deed(deed):
            raise BadDeeds(index)
        try:
            row.follow(deed)
        except KeepError:
            raise BadDeeds(index)
    return row
