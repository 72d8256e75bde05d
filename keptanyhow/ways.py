"""Names, ways, signs and contents (point 2)."""

from keptanyhow.errors import BadNames, BadWay

ROOT = "/"
LETTERS = "abcdefghijklmnopqrstuvwxyz"
SIGNS = "abcdefghijklmnopqrstuvwxyzABCDEFGHIJKLMNOPQRSTUVWXYZ0123456789 .,:;=>/-+_()!?"
MOST_LETTERS = 8
MOST_SIGNS = 2000


def has_only(text, signs):
    """Whether each character of a string is one of the signs."""
    # strip takes the signs off both ends: it stops at the first character that is none of them.
    return text.strip(signs) == ""


def is_name(value):
    """Whether a value is a name."""
    return isinstance(value, str) and 1 <= len(value) <= MOST_LETTERS and has_only(value, LETTERS)


def is_way(value):
    """Whether a value is a way."""
    if not isinstance(value, str) or not value.startswith("/"):
        return False
    return value == ROOT or all([is_name(name) for name in value[1:].split("/")])


def is_lower_way(value):
    """Whether a value is a way other than "/"."""
    return is_way(value) and value != ROOT


def is_contents(value):
    """Whether a value is contents."""
    return isinstance(value, str) and len(value) <= MOST_SIGNS and has_only(value, SIGNS)


def check_way(way):
    """Raise BadWay for a value that is no way."""
    if not is_way(way):
        raise BadWay("no way")


def check_lower_way(way):
    """Raise BadWay for a value that is no way, and for "/"."""
    if not is_lower_way(way):
        raise BadWay("no way with a last name")


def folder_of(way):
    """The way above a way that is known to be one other than "/"."""
    return way.rpartition("/")[0] or ROOT


def own_name(way):
    """The last name of a way that is known to be one other than "/"."""
    return way.rpartition("/")[2]


def way_below(way, name):
    """The way of a name in the folder at a way."""
    return ROOT + name if way == ROOT else way + "/" + name


def is_below(one, other):
    """Whether a way that is known to be one lies below another one, which is not "/"."""
    return one.startswith(other + "/")


def ways_above(way):
    """The list of the ways above a way that is known to be one, from the top on, without "/"."""
    found = []
    at = way.find("/", 1)
    while at != -1:
        found.append(way[:at])
        at = way.find("/", at + 1)
    return found


def names_in(way):
    """The tuple of the names of a way, () for "/"."""
    check_way(way)
    if way == ROOT:
        return ()
    return tuple(way[1:].split("/"))


def way_of(names):
    """The way of a tuple of names."""
    if not isinstance(names, tuple) or not all([is_name(name) for name in names]):
        raise BadNames("no tuple of names")
    return ROOT + "/".join(names)


def above(way):
    """The way without its last name."""
    check_lower_way(way)
    return folder_of(way)


def last_name(way):
    """The last name of a way."""
    check_lower_way(way)
    return own_name(way)


def lies_below(one, other):
    """Whether one way begins with the names of the other one and has more."""
    check_way(one)
    check_way(other)
    if other == ROOT:
        return one != ROOT
    return is_below(one, other)
