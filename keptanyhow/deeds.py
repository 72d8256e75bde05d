"""Deeds, and the trees behind them (points 5 to 7)."""

from keptanyhow.errors import (
    BadDeed, BadDeeds, BadPlace, Inside, IsThere, KeepError, NotEmpty, NotFile, NotFolder, NotThere, TooLong,
)
from keptanyhow.limits import is_number
from keptanyhow.trees import MOST_WAYS, check_tree, tree_of_spots
from keptanyhow.ways import MOST_SIGNS, is_below, is_contents, is_lower_way, ways_above

MOST_IN_BUNDLE = 6
MOST_DEEDS = 200

# What stands behind the word of each simple deed.
FORMS = {
    "folder": ("way",),
    "file": ("way", "contents"),
    "write": ("way", "place", "contents"),
    "cut": ("way", "place"),
    "link": ("way", "way"),
    "move": ("way", "way"),
    "drop": ("way",),
}


def fits_form(value, form):
    """Whether a value can be an item of this form in a deed."""
    if form == "way":
        return is_lower_way(value)
    if form == "contents":
        return is_contents(value)
    return is_number(value, 0, MOST_SIGNS)


def is_simple_deed(value):
    """Whether a value is a simple deed."""
    if not isinstance(value, tuple) or len(value) == 0 or not isinstance(value[0], str) or value[0] not in FORMS:
        return False
    forms = FORMS[value[0]]
    if len(value) != len(forms) + 1:
        return False
    return all([fits_form(item, form) for item, form in zip(value[1:], forms)])


def is_bundle(value):
    """Whether a value is a bundle."""
    if not isinstance(value, tuple) or len(value) != 2 or not isinstance(value[0], str) or value[0] != "bundle":
        return False
    if not isinstance(value[1], tuple) or not 1 <= len(value[1]) <= MOST_IN_BUNDLE:
        return False
    return all([is_simple_deed(deed) for deed in value[1]])


def is_deed(value):
    """Whether a value is a deed."""
    return is_simple_deed(value) or is_bundle(value)


def check_deed(deed):
    """Raise BadDeed for a value that is no deed."""
    if not is_deed(deed):
        raise BadDeed("no deed")


def check_deeds(deeds, most):
    """Raise BadDeeds for a value that is no tuple of at most so many deeds."""
    if not isinstance(deeds, tuple) or len(deeds) > most:
        raise BadDeeds(None)
    for index, deed in enumerate(deeds):
        if not is_deed(deed):
            raise BadDeeds(index)


def simple_deeds(deed):
    """The tuple of the simple deeds of a deed."""
    if deed[0] == "bundle":
        return deed[1]
    return (deed,)


def deed_for(line):
    """The deed that makes what a line of a tree tells, where what stands before it is made."""
    if line[1] == "folder":
        return ("folder", line[0])
    if line[1] == "file":
        return ("file", line[0], line[2])
    return ("link", line[2], line[0])


def overwritten(text, place, contents):
    """A text into which contents are put from a place on."""
    return text[:place] + contents + text[place + len(contents):]


class Ground:
    """A tree that deeds are done on: the file at each way, None for a folder, and the contents of each file."""

    def __init__(self, tree):
        self.spots = {}
        self.texts = {}
        for line in tree:
            if line[1] == "folder":
                self.spots[line[0]] = None
            elif line[1] == "file":
                self.spots[line[0]] = len(self.texts)
                self.texts[len(self.texts)] = line[2]
            else:
                self.spots[line[0]] = self.spots[line[2]]

    def is_folder(self, way):
        """Whether a folder stands at a way other than "/"."""
        return way in self.spots and self.spots[way] is None

    def text_at(self, way):
        """The contents of the file that stands at a way."""
        return self.texts[self.spots[way]]

    def make(self, way, text):
        """Make a file."""
        self.spots[way] = len(self.texts)
        self.texts[len(self.texts)] = text

    def carry(self, way, other):
        """Move what stands at a way, and all below it."""
        for old in list(self.spots):
            if old == way or is_below(old, way):
                spot = self.spots.pop(old)
                self.spots[other + old[len(way):]] = spot


def check_above(ground, way):
    """Refuse a way above which a folder is lacking; the first name that is none tells the error."""
    for step in ways_above(way):
        if step not in ground.spots:
            raise NotThere("a folder above is lacking")
        if not ground.is_folder(step):
            raise NotFolder("a file stands above")


def check_empty(ground, way):
    """Refuse a way that is not empty."""
    check_above(ground, way)
    if way in ground.spots:
        raise IsThere("something stands there")


def check_there(ground, way):
    """Refuse an empty way."""
    check_above(ground, way)
    if way not in ground.spots:
        raise NotThere("nothing stands there")


def check_file(ground, way):
    """Refuse a way at which no file stands."""
    check_there(ground, way)
    if ground.is_folder(way):
        raise NotFile("a folder stands there")


def do_folder(ground, deed):
    """Make a folder."""
    check_empty(ground, deed[1])
    ground.spots[deed[1]] = None


def do_file(ground, deed):
    """Make a file."""
    check_empty(ground, deed[1])
    ground.make(deed[1], deed[2])


def do_write(ground, deed):
    """Put contents into a file."""
    way, place, contents = deed[1:]
    check_file(ground, way)
    text = ground.text_at(way)
    if place > len(text):
        raise BadPlace("the place lies behind the end")
    if place + len(contents) > MOST_SIGNS:
        raise TooLong("the file would have too many signs")
    ground.texts[ground.spots[way]] = overwritten(text, place, contents)


def do_cut(ground, deed):
    """Cut a file."""
    way, length = deed[1:]
    check_file(ground, way)
    text = ground.text_at(way)
    if length > len(text):
        raise BadPlace("the length lies behind the end")
    ground.texts[ground.spots[way]] = text[:length]


def do_link(ground, deed):
    """Give a file another way."""
    way, other = deed[1:]
    check_file(ground, way)
    check_empty(ground, other)
    number = ground.spots[way]
    if len([spot for spot in ground.spots if ground.spots[spot] == number]) >= MOST_WAYS:
        raise TooLong("the file would have too many ways")
    ground.spots[other] = number


def check_move(ground, way, other):
    """Refuse to move what stands at a way to the other way, above which all is well."""
    if ground.is_folder(way) and is_below(other, way):
        raise Inside("a folder cannot be moved into itself")
    if other in ground.spots:
        if ground.is_folder(way) or ground.is_folder(other) or ground.spots[way] == ground.spots[other]:
            raise IsThere("what stands there cannot be replaced")


def do_move(ground, deed):
    """Move a folder, or a way of a file."""
    way, other = deed[1:]
    check_there(ground, way)
    check_above(ground, other)
    check_move(ground, way, other)
    ground.carry(way, other)


def do_drop(ground, deed):
    """Take away an empty folder, or a way of a file."""
    way = deed[1]
    check_there(ground, way)
    if ground.is_folder(way) and any([is_below(spot, way) for spot in ground.spots]):
        raise NotEmpty("something is in the folder")
    del ground.spots[way]


DOINGS = {
    "folder": do_folder,
    "file": do_file,
    "write": do_write,
    "cut": do_cut,
    "link": do_link,
    "move": do_move,
    "drop": do_drop,
}


def tree_behind(tree, deeds):
    """The tree behind some deeds, all known to be such."""
    ground = Ground(tree)
    for deed in deeds:
        for simple in simple_deeds(deed):
            doing = DOINGS[simple[0]]
            doing(ground, simple)
    return tree_of_spots(ground.spots, ground.texts)


def check_tree_and_deed(tree, deed):
    """Raise BadTree or BadDeed for arguments that are no tree and no deed."""
    check_tree(tree)
    check_deed(deed)


def done(tree, deed):
    """The tree behind a deed."""
    check_tree_and_deed(tree, deed)
    return tree_behind(tree, (deed,))


def done_all(tree, deeds):
    """The tree behind a tuple of deeds."""
    check_tree(tree)
    check_deeds(deeds, MOST_DEEDS)
    return tree_behind(tree, deeds)


def let_by(tree, deed):
    """Whether a deed is not refused."""
    check_tree_and_deed(tree, deed)
    try:
        tree_behind(tree, (deed,))
    except KeepError:
        return False
    return True


def lines_without(lines, others):
    """The tuple of the lines of a tree that are none of another one's."""
    known = {line[0]: line for line in others}
    return tuple([line for line in lines if line[0] not in known or known[line[0]] != line])


def changes(tree, deed):
    """The lines of a tree that go by a deed, and the lines that come."""
    check_tree_and_deed(tree, deed)
    behind = tree_behind(tree, (deed,))
    return (lines_without(tree, behind), lines_without(behind, tree))
