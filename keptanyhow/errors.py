"""All errors of the package: each is a direct subclass of KeepError."""


class KeepError(ValueError):
    """The base class of all errors."""


class BadWay(KeepError):
    """A value is no way, or not one that can be taken here."""


class BadNames(KeepError):
    """A value is no tuple of names."""


class BadContents(KeepError):
    """A value is no contents."""


class BadTree(KeepError):
    """A value is no tree: index is that of its first wrong item, None for no tuple."""

    def __init__(self, index):
        self.index = index


class NotFile(KeepError):
    """No file stands at a way."""


class NotFolder(KeepError):
    """No folder stands at a way."""


class BadDeed(KeepError):
    """A value is no deed."""


class BadDeeds(KeepError):
    """A value is no tuple of deeds: index is that of its first wrong item, None for no such tuple."""

    def __init__(self, index):
        self.index = index


class NotThere(KeepError):
    """Nothing stands at a way."""


class IsThere(KeepError):
    """Something stands at a way already."""


class BadPlace(KeepError):
    """A place or a length lies behind the end of a file."""


class TooLong(KeepError):
    """A file would have too many signs, or too many ways."""


class NotEmpty(KeepError):
    """A folder that is to be dropped has something in it."""


class Inside(KeepError):
    """A folder would be moved into itself."""


class BadBytes(KeepError):
    """A value is no bytes, or not such as can be taken here."""


class BadNumber(KeepError):
    """A value is no integer, or not one that can be taken here."""


class BadPage(KeepError):
    """A value is no page."""


class BadTold(KeepError):
    """A value is no tuple that tells a page."""


class BadCard(KeepError):
    """A value is no card, or not one that can be taken here."""


class BadTails(KeepError):
    """A value is no tuple of the tails that a card needs."""


class BadSize(KeepError):
    """A value is no size."""


class BadImage(KeepError):
    """A value is no image."""


class BadWrites(KeepError):
    """A value is no writes: index is that of its first wrong item, None for no such tuple."""

    def __init__(self, index):
        self.index = index


class BadKeeping(KeepError):
    """A value is no keeping: index is that of its first wrong item, None for no such tuple."""

    def __init__(self, index):
        self.index = index


class NoHead(KeepError):
    """An image has no head."""


class Unsound(KeepError):
    """An image is not sound: faults are what is wrong with it."""

    def __init__(self, faults):
        self.faults = faults


class NoRoom(KeepError):
    """There is no room: what is "things", "pages", "stamps" or "periods"."""

    def __init__(self, what):
        self.what = what


class BadPast(KeepError):
    """A value is no past."""


class BadPlaces(KeepError):
    """A value is no ascending tuple of places of deeds."""


class BadWish(KeepError):
    """A value is no wish."""


class BadPromises(KeepError):
    """A value is no promises: index is that of its first wrong item, None for no such tuple."""

    def __init__(self, index):
        self.index = index


class BadGaps(KeepError):
    """A value is no ascending tuple of gaps."""


class BadWays(KeepError):
    """A value is no tuple of ways that can be marked."""


class NotMade(KeepError):
    """What is asked for cannot be made."""


class TooMany(KeepError):
    """There are more than most."""

    def __init__(self, most):
        self.most = most


class UnlikeImages(KeepError):
    """Two images have not as many pages."""


class BadEvents(KeepError):
    """A value is no events: index is that of its first wrong item, None for no such tuple."""

    def __init__(self, index):
        self.index = index


class NotText(KeepError):
    """A value is no string."""


class InvalidText(KeepError):
    """A text cannot be read: line is the first line, from 1, that cannot stand there."""

    def __init__(self, line):
        self.line = line


class NothingToUndo(KeepError):
    """No line can be taken back."""


class NothingToRedo(KeepError):
    """No line can be done again."""
