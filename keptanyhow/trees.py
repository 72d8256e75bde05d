"""Trees, and what stands in them (points 3 and 4)."""

from keptanyhow.errors import BadTree, NotFile, NotFolder
from keptanyhow.ways import ROOT, check_way, folder_of, is_contents, is_lower_way, own_name

MOST_WAYS = 8


def is_line(value):
    """Whether a value has the form of a line, whatever lines stand before it."""
    if not isinstance(value, tuple) or len(value) not in (2, 3):
        return False
    if not is_lower_way(value[0]) or not isinstance(value[1], str):
        return False
    if len(value) == 2:
        return value[1] == "folder"
    if value[1] == "file":
        return is_contents(value[2])
    return value[1] == "same" and is_lower_way(value[2])


def first_wrong(lines):
    """The index of the first item of a tuple because of which it is no tree, None for a tree."""
    folders = {ROOT}
    many_ways = {}
    before = ROOT
    for index, line in enumerate(lines):
        if not is_line(line) or line[0] <= before or folder_of(line[0]) not in folders:
            return index
        before = line[0]
        if line[1] == "folder":
            folders.add(before)
        elif line[1] == "file":
            many_ways[before] = 1
        elif line[2] in many_ways and many_ways[line[2]] < MOST_WAYS:
            many_ways[line[2]] += 1
        else:
            return index
    return None


def is_tree(value):
    """Whether a value is a tree."""
    return isinstance(value, tuple) and first_wrong(value) is None


def check_tree(tree):
    """Raise BadTree for a value that is no tree."""
    if not isinstance(tree, tuple):
        raise BadTree(None)
    index = first_wrong(tree)
    if index is not None:
        raise BadTree(index)


def check_tree_and_way(tree, way):
    """Raise BadTree or BadWay for arguments that are no tree and no way."""
    check_tree(tree)
    check_way(way)


def tree_of_spots(spots, texts):
    """The tree of what stands at ways: a number for each file, None for a folder; texts are the files' contents."""
    lines = []
    least = {}
    for way in sorted(spots):
        number = spots[way]
        if number is None:
            lines.append((way, "folder"))
        elif number in least:
            lines.append((way, "same", least[number]))
        else:
            lines.append((way, "file", texts[number]))
            least[number] = way
    return tuple(lines)


def line_at(tree, way):
    """The line of a way, None if the tree has none."""
    for line in tree:
        if line[0] == way:
            return line
    return None


def line_of_file(tree, way):
    """The line at the least way of the file that stands at a way, None if no file stands there."""
    line = line_at(tree, way)
    if line is not None and line[1] == "same":
        line = line_at(tree, line[2])
    return line if line is not None and line[1] == "file" else None


def file_line(tree, way):
    """The line at the least way of the file that stands at a way; NotFile is raised if there is none."""
    line = line_of_file(tree, way)
    if line is None:
        raise NotFile("no file stands there")
    return line


def kind_at(tree, way):
    """What stands at a way of a tree, both known to be such."""
    if way == ROOT:
        return "folder"
    line = line_at(tree, way)
    if line is None:
        return None
    return "folder" if line[1] == "folder" else "file"


def stands(tree, way):
    """What stands at a way: "folder", "file", or None for an empty way."""
    check_tree_and_way(tree, way)
    return kind_at(tree, way)


def reads(tree, way):
    """The contents of the file at a way."""
    check_tree_and_way(tree, way)
    return file_line(tree, way)[2]


def inside(tree, way):
    """The ascending tuple of the names in the folder at a way."""
    check_tree_and_way(tree, way)
    if kind_at(tree, way) != "folder":
        raise NotFolder("no folder stands there")
    return tuple([own_name(line[0]) for line in tree if folder_of(line[0]) == way])


def ways_of_file(tree, way):
    """The ascending tuple of all ways at which the file at a way stands."""
    check_tree_and_way(tree, way)
    least = file_line(tree, way)[0]
    return tuple([line[0] for line in tree if line[0] == least or line[1:] == ("same", least)])


def size_of_tree(tree):
    """How many folders, files and signs a tree has."""
    check_tree(tree)
    files = [line for line in tree if line[1] == "file"]
    folders = [line for line in tree if line[1] == "folder"]
    return (len(folders), len(files), sum([len(line[2]) for line in files]))
