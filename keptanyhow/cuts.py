"""Cuts: which keeping leaves which past; what is read of two disks, or put on another one (points 34, 42, 43)."""

from keptanyhow.deeds import deed_for
from keptanyhow.drives import Drive
from keptanyhow.errors import UnlikeImages
from keptanyhow.images import check_image, check_size, new_image
from keptanyhow.logs import Log
from keptanyhow.pages import BAD, told_by
from keptanyhow.pasts import check_past
from keptanyhow.rows import row_checked
from keptanyhow.scans import sound_view, tree_found
from keptanyhow.trees import check_tree

# What has a stamp, on the pages that tell it.
STAMPED = ("card", "tail", "data")


def image_made(size, tree):
    """The image of a size on which a tree is made and synced."""
    drive = Drive(new_image(size))
    for line in tree:
        drive.do(deed_for(line))
    drive.sync()
    return drive.image


def log_made(size, tree, deeds):
    """The log of deeds that are done on the image of a tree."""
    log = Log(Drive(image_made(size, tree)))
    for deed in deeds:
        log.do(deed)
    return log


def image_of(size, tree):
    """The image of a size on which a tree is made and synced."""
    check_size(size)
    check_tree(tree)
    return image_made(size, tree)


def drive_of(size, tree, deeds):
    """The drive that begins with the image of a tree and does all deeds."""
    check_size(size)
    row_checked(tree, deeds)
    return log_made(size, tree, deeds).drive


def keeping_for(size, tree, deeds, past):
    """The keeping by which a past comes up."""
    check_size(size)
    check_past(row_checked(tree, deeds), past)
    return log_made(size, tree, deeds).keeping_of(past)


def past_by(size, tree, deeds, keeping):
    """The past that comes up by a keeping."""
    check_size(size)
    row_checked(tree, deeds)
    log = log_made(size, tree, deeds)
    log.drive.cut(keeping)
    return log.past_of(log.drive.cards)


def is_better(told, other):
    """Whether the page that is told by other is read instead of the one at the same place that is told by told."""
    if told == BAD:
        return True
    if told[0] == "blank":
        return other != BAD
    if told[0] == "head":
        return other[0] == "head" and other[1] > told[1]
    return other[0] in STAMPED and other[2] > told[2]


def joined(one, other):
    """What is read of two images that were written alike."""
    check_image(one)
    check_image(other)
    if len(one) != len(other):
        raise UnlikeImages("not as many pages")
    return tuple([
        other_page if is_better(told_by(page), told_by(other_page)) else page for page, other_page in zip(one, other)
    ])


def copied_to(image, size):
    """The image of another size on which the tree that comes up of an image is made and synced."""
    check_image(image)
    tree = tree_found(sound_view(image))
    check_size(size)
    return image_made(size, tree)
