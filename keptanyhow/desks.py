"""Desks: lines that do deeds on a drive or ask of it, and can be taken back (point 46)."""

from keptanyhow.bits import numbers_of
from keptanyhow.drives import Drive
from keptanyhow.errors import InvalidText, NotThere, NothingToRedo, NothingToUndo
from keptanyhow.images import keeping_told, new_image
from keptanyhow.pasts import unlike_trees
from keptanyhow.rows import row_behind
from keptanyhow.scans import tree_up
from keptanyhow.texts import check_text, number_in, read_deed, write_tree
from keptanyhow.trees import inside, kind_at, reads
from keptanyhow.ways import folder_of, is_way

MOST_IN_CUT = 40
MOST_NUMBER = 999


def numbers_in(words):
    """The tuple of the numbers of a cut, None if some words are none."""
    numbers = tuple([number_in(word) for word in words])
    if not 1 <= len(numbers) <= MOST_IN_CUT:
        return None
    return numbers if all([number is not None and number <= MOST_NUMBER for number in numbers]) else None


def row_of(drive):
    """The row of the deeds of a drive since its last sync."""
    return row_behind(tree_up(drive.image), drive.deeds)


def answer_tree(drive):
    """The text of the tree."""
    return write_tree(drive.tree)


def answer_room(drive):
    """How many things and pages are free."""
    things, pages = drive.room
    return str(things) + " " + str(pages)


def answer_deeds(drive):
    """How many deeds there are since the last sync."""
    return str(len(drive.deeds))


def answer_trees(drive):
    """How many unlike trees can come up."""
    return str(len(unlike_trees(row_of(drive))))


def answer_read(drive, way):
    """The contents of the file at a way."""
    return reads(drive.tree, way)


def answer_list(drive, way):
    """The names in the folder at a way."""
    return " ".join(inside(drive.tree, way))


def answer_lost(drive, way):
    """How many deeds can be lost while what stands at a way is as it is now."""
    if kind_at(drive.tree, folder_of(way)) != "folder":
        raise NotThere("no folder stands above")
    row = row_of(drive)
    kept = row.bits_with(row.bits_at(way))
    return str(len(drive.deeds) - len(numbers_of(kept)))


# By the word that is all of the question, and by the one that a way follows.
PLAIN_ANSWERS = {"tree": answer_tree, "room": answer_room, "deeds": answer_deeds, "trees": answer_trees}
ANSWERS_AT = {"read": answer_read, "list": answer_list, "lost": answer_lost}


class Desk:
    """A drive, the lines that were no questions, and those that were taken back."""

    def __init__(self, size):
        self._drive = Drive(new_image(size))
        self._lines = ()
        # The states of the drive ahead of each line.
        self._states = ()
        self._undone = ()

    @property
    def tree(self):
        """The tree of the drive."""
        return self._drive.tree

    @property
    def image(self):
        """The image of the drive."""
        return self._drive.image

    @property
    def lines(self):
        """The tuple of the lines that were no questions."""
        return self._lines

    def run(self, line):
        """Take a line: a question is answered, all others change the drive."""
        check_text(line)
        words = line.split(" ")
        if line in PLAIN_ANSWERS:
            answer = PLAIN_ANSWERS[line]
            return answer(self._drive)
        if words[0] in ANSWERS_AT:
            if len(words) != 2 or not is_way(words[1]):
                raise InvalidText(1)
            answer_at = ANSWERS_AT[words[0]]
            return answer_at(self._drive, words[1])
        self._change(line)
        self._undone = ()
        return None

    def undo(self):
        """Take the last line back."""
        if not self._lines:
            raise NothingToUndo("no line")
        self._drive.back_to(self._states[-1])
        self._undone = self._undone + (self._lines[-1],)
        self._lines = self._lines[:-1]
        self._states = self._states[:-1]

    def redo(self):
        """Do the line again that was taken back last."""
        if not self._undone:
            raise NothingToRedo("no line")
        self._change(self._undone[-1])
        self._undone = self._undone[:-1]

    def _change(self, line):
        """Take a line that is no question."""
        state = self._drive.state()
        words = line.split(" ")
        numbers = numbers_in(words[1:]) if words[0] == "cut" else None
        if line == "sync":
            self._drive.sync()
        elif numbers is not None:
            self._drive.cut(keeping_told(self._drive.writes, numbers))
        else:
            self._drive.do(read_deed(line))
        self._lines = self._lines + (line,)
        self._states = self._states + (state,)
