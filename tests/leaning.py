"""Another way to tell which deeds lean on which (points 28 and 31), for comparison: by things as objects."""

from itertools import combinations


class Thing:
    """A folder or a file, and the deeds that wrote it."""

    def __init__(self, is_folder):
        self.is_folder = is_folder
        self.writers = []


class Row:
    """Deeds that are done one after another on a tree; leans has a set of earlier deeds for each."""

    def __init__(self, tree):
        self.root = Thing(True)
        self.places = {}
        # What left each place: the pairs of the thing and the deed by which it left.
        self.gone = {}
        self.leans = []
        for line in tree:
            folder, name = self.folders(line[0])[-1], line[0].split("/")[-1]
            if line[1] == "same":
                self.places[folder, name] = self.at(line[2])
            else:
                self.places[folder, name] = Thing(line[1] == "folder")

    def folders(self, way):
        """The folders on the way above a way."""
        found = [self.root]
        for name in way.split("/")[1:-1]:
            found.append(self.places[found[-1], name])
        return found

    def place(self, way):
        return self.folders(way)[-1], way.split("/")[-1]

    def at(self, way):
        return self.places.get(self.place(way))

    def seen(self, way):
        """The deeds on which one leans that looks at a way."""
        found = set()
        for folder in self.folders(way):
            found.update(folder.writers)
        if self.at(way) is not None:
            found.update(self.at(way).writers)
        elif self.place(way) in self.gone:
            thing, last = self.gone[self.place(way)][-1]
            found.update([writer for writer in thing.writers if writer <= last])
        return found

    def leave(self, place, number, wrote):
        thing = self.places.pop(place)
        self.gone.setdefault(place, []).append((thing, number))
        wrote.append(thing)
        return thing

    def act(self, deed, number, wrote):
        """Do a simple deed; returns the deeds on which it leans by what it looks at."""
        word, way = deed[:2]
        found = self.seen(way)
        place = self.place(way)
        if word in ("folder", "file"):
            self.places[place] = Thing(word == "folder")
        if word in ("folder", "file", "write", "cut", "link"):
            wrote.append(self.places[place])
        if word == "link":
            found |= self.seen(deed[2])
            self.places[self.place(deed[2])] = self.places[place]
        if word == "move":
            found |= self.seen(deed[2])
            other = self.place(deed[2])
            thing = self.leave(place, number, wrote)
            if other in self.places:
                self.leave(other, number, wrote)
            self.places[other] = thing
        if word == "drop":
            thing = self.leave(place, number, wrote)
            if thing.is_folder:
                for spot, told in self.gone.items():
                    for left, last in told if spot[0] is thing else ():
                        found.update([writer for writer in left.writers if writer <= last])
        return found

    def do(self, deed):
        number = len(self.leans)
        wrote, found = [], set()
        for simple in deed[1] if deed[0] == "bundle" else (deed,):
            found |= self.act(simple, number, wrote)
            # Things written by an earlier simple deed of the bundle are leaned on by their earlier writers alone.
        for thing in wrote:
            found.update(thing.writers)
        for thing in wrote:
            if number not in thing.writers:
                thing.writers.append(number)
        self.leans.append({earlier for earlier in found if earlier < number})


def needs_of(tree, deeds):
    """For each deed, the set of all that it needs."""
    row = Row(tree)
    for deed in deeds:
        row.do(deed)
    needs = []
    for leans in row.leans:
        needs.append(set(leans).union(*[needs[earlier] for earlier in leans]))
    return needs


def pasts_of(tree, deeds):
    """The list of all tuples of places of deeds that hold, with each, all that it needs."""
    needs = needs_of(tree, deeds)
    found = []
    for many in range(len(deeds) + 1):
        for past in combinations(range(len(deeds)), many):
            if all(needs[place] <= set(past) for place in past):
                found.append(past)
    return found
