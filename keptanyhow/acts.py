"""Acts: what a deed writes and looks at, told by things and their places (points 27 and 28)."""

from keptanyhow.deeds import overwritten, simple_deeds
from keptanyhow.ways import names_in


class Act:
    """Things on which a deed that is not refused is done, one of its simple deeds after another.

    A place is a pair (folder, name). gone tells what left places ahead of this deed: tuples that begin with the place.
    Behind the deed, written has the things that it writes, looked those that it looks at standing there, missed the
    indexes of what it looks at of gone, and left the pairs of a place and the thing that left it by this deed.
    """

    def __init__(self, places, kinds, texts, gone, spare):
        self.places = {place: places[place] for place in places}
        self.kinds = list(kinds)
        self.texts = list(texts)
        self.gone = gone
        self.spare = list(spare)
        self.written = {}
        self.looked = {0: True}
        self.missed = {}
        self.left = []

    def look(self, way):
        """Look at a way and at the folders above it; returns its place."""
        folder = 0
        names = names_in(way)
        for name in names[:-1]:
            folder = self.places[(folder, name)]
            self.looked[folder] = True
        place = (folder, names[-1])
        if place in self.places:
            self.looked[self.places[place]] = True
        elif place not in [told[0] for told in self.left]:
            self.look_back(place)
        return place

    def look_back(self, place):
        """Look at what left a place last, before this deed."""
        indexes = [index for index, told in enumerate(self.gone) if told[0] == place]
        if indexes:
            self.missed[indexes[-1]] = True

    def look_into(self, folder):
        """Look at all that left places in a folder, before this deed."""
        for index, told in enumerate(self.gone):
            if told[0][0] == folder:
                self.missed[index] = True

    def make(self, way, kind, text):
        """Make a thing."""
        place = self.look(way)
        thing = self.spare.pop(0)
        self.kinds[thing] = kind
        self.texts[thing] = text
        self.come(place, thing)

    def come(self, place, thing):
        """Put a thing at a place, away from which what stands there is taken."""
        if place in self.places:
            self.leave(place)
        self.places[place] = thing
        self.written[thing] = True

    def leave(self, place):
        """Take what stands at a place away from it; returns this thing."""
        thing = self.places.pop(place)
        self.left.append((place, thing))
        self.written[thing] = True
        return thing

    def rewrite(self, way, place, contents):
        """Put contents into the file at a way; None for contents cuts it at the place."""
        thing = self.places[self.look(way)]
        text = self.texts[thing]
        self.texts[thing] = text[:place] if contents is None else overwritten(text, place, contents)
        self.written[thing] = True

    def places_of(self, thing):
        """The ascending tuple of the places of a thing."""
        return tuple(sorted([place for place in self.places if self.places[place] == thing]))

    def forget(self):
        """Make each thing that has no place any more one of kind "none"."""
        for thing in self.written:
            if not self.places_of(thing):
                self.kinds[thing] = "none"
                self.texts[thing] = ""


def act_folder(act, deed):
    """Make a folder."""
    act.make(deed[1], "folder", "")


def act_file(act, deed):
    """Make a file."""
    act.make(deed[1], "file", deed[2])


def act_write(act, deed):
    """Put contents into a file."""
    act.rewrite(deed[1], deed[2], deed[3])


def act_cut(act, deed):
    """Cut a file."""
    act.rewrite(deed[1], deed[2], None)


def act_link(act, deed):
    """Give a file another way."""
    thing = act.places[act.look(deed[1])]
    act.come(act.look(deed[2]), thing)


def act_move(act, deed):
    """Move a folder, or a way of a file."""
    place = act.look(deed[1])
    other = act.look(deed[2])
    act.come(other, act.leave(place))


def act_drop(act, deed):
    """Take away an empty folder, or a way of a file."""
    thing = act.leave(act.look(deed[1]))
    if act.kinds[thing] == "folder":
        act.look_into(thing)


ACTS = {
    "folder": act_folder,
    "file": act_file,
    "write": act_write,
    "cut": act_cut,
    "link": act_link,
    "move": act_move,
    "drop": act_drop,
}


def many_made(deed):
    """How many things a deed makes."""
    return len([simple for simple in simple_deeds(deed) if simple[0] in ("folder", "file")])


def play(act, deed):
    """Do a deed on things."""
    for simple in simple_deeds(deed):
        doing = ACTS[simple[0]]
        doing(act, simple)
    act.forget()
