"""Another way to do deeds, for comparison: folders are dicts within one another, files are objects."""

import random

from keptanyhow.errors import BadPlace, Inside, IsThere, NotEmpty, NotFile, NotFolder, NotThere, TooLong


class File:
    def __init__(self, text):
        self.text = text


def unfolded(tree):
    """The nested dicts of a tree."""
    root = {}
    files = {}
    for line in tree:
        names = line[0].split("/")[1:]
        folder = root
        for name in names[:-1]:
            folder = folder[name]
        if line[1] == "folder":
            folder[names[-1]] = {}
        else:
            if line[1] == "file":
                files[line[0]] = File(line[2])
            folder[names[-1]] = files[line[0] if line[1] == "file" else line[2]]
    return root


def spots_in(folder, way=""):
    for name, held in folder.items():
        yield way + "/" + name, held
        if isinstance(held, dict):
            yield from spots_in(held, way + "/" + name)


def folded(root):
    """The tree of nested dicts."""
    lines, least = [], {}
    for way, held in sorted(spots_in(root), key=lambda spot: spot[0]):
        if isinstance(held, dict):
            lines.append((way, "folder"))
        elif id(held) in least:
            lines.append((way, "same", least[id(held)]))
        else:
            least[id(held)] = way
            lines.append((way, "file", held.text))
    return tuple(lines)


def walked(root, way):
    """The folder above a way, and the last name."""
    names = way.split("/")[1:]
    folder = root
    for name in names[:-1]:
        if name not in folder:
            raise NotThere
        folder = folder[name]
        if isinstance(folder, File):
            raise NotFolder
    return folder, names[-1]


def act(root, deed):
    word, way = deed[:2]
    folder, name = walked(root, way)
    held = folder.get(name)
    if word in ("folder", "file"):
        if held is not None:
            raise IsThere
        folder[name] = {} if word == "folder" else File(deed[2])
        return
    if held is None:
        raise NotThere
    if word in ("write", "cut", "link") and isinstance(held, dict):
        raise NotFile
    if word == "write":
        if deed[2] > len(held.text):
            raise BadPlace
        if deed[2] + len(deed[3]) > 2000:
            raise TooLong
        held.text = held.text[:deed[2]] + deed[3] + held.text[deed[2] + len(deed[3]):]
    elif word == "cut":
        if deed[2] > len(held.text):
            raise BadPlace
        held.text = held.text[:deed[2]]
    elif word == "drop":
        if held == {}:
            pass
        elif isinstance(held, dict):
            raise NotEmpty
        del folder[name]
    else:
        act_twice(root, deed, held, folder, name)


def act_twice(root, deed, held, folder, name):
    other, last = walked(root, deed[2])
    there = other.get(last)
    if deed[0] == "link":
        if there is not None:
            raise IsThere
        if len([spot for spot in spots_in(root) if spot[1] is held]) == 8:
            raise TooLong
        other[last] = held
        return
    if isinstance(held, dict) and deed[2].startswith(deed[1] + "/"):
        raise Inside
    if there is not None and (there is held or isinstance(there, dict) or isinstance(held, dict)):
        raise IsThere
    del folder[name]
    other[last] = held


def done_nested(tree, deed):
    """The tree behind a deed, by nested dicts."""
    root = unfolded(tree)
    for simple in deed[1] if deed[0] == "bundle" else (deed,):
        act(root, simple)
    return folded(root)


WAYS = ["/a", "/b", "/c", "/a/a", "/a/b", "/a/c", "/b/a", "/b/b", "/b/c", "/a/a/a", "/a/a/b", "/b/a/b", "/a/b/b", "/c/c/c"]


def random_simple(chance, ways):
    way, other = chance.choice(ways), chance.choice(ways)
    text = chance.choice("pqrstuvw") * chance.choice([0, 1, 2, 3, 49, 50, 51, 60, 101])
    return chance.choice([
        ("folder", way), ("folder", way), ("file", way, text), ("file", way, text), ("link", way, other),
        ("write", way, chance.choice([0, 0, 1, 2, 50, 51]), text), ("cut", way, chance.choice([0, 1, 2, 50])),
        ("move", way, other), ("move", way, other), ("drop", way), ("drop", way),
    ])


def random_deed(chance, ways):
    """A deed, one in four being a bundle."""
    if chance.randrange(4) > 0:
        return random_simple(chance, ways)
    return ("bundle", tuple([random_simple(chance, ways) for _ in range(chance.choice([1, 2, 2, 3, 6]))]))


def let_by_nested(tree, deed):
    try:
        done_nested(tree, deed)
    except (NotThere, NotFolder, IsThere, NotFile, BadPlace, TooLong, NotEmpty, Inside):
        return False
    return True


def random_let_by(chance, tree, ways):
    """A deed that is let by."""
    deed = random_deed(chance, ways)
    while not let_by_nested(tree, deed):
        deed = random_deed(chance, ways)
    return deed


def some_chance(number):
    """A source of random choices that are the same each time."""
    return random.Random(number)
