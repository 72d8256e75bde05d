"""Lives of a drive, event by event; and the deeds from one tree to another one (points 43 and 44)."""

from keptanyhow.deeds import deed_for, is_deed, lines_without
from keptanyhow.drives import Drive
from keptanyhow.errors import BadEvents, KeepError
from keptanyhow.images import are_numbers, check_size, image_behind, image_kept, keeping_told, new_image
from keptanyhow.limits import is_number
from keptanyhow.logs import Log
from keptanyhow.scans import settling_writes, sound_view
from keptanyhow.trees import check_tree

MOST_EVENTS = 200
MOST_AGAIN = 3


def is_event(value):
    """Whether a value is an event."""
    if is_deed(value):
        return True
    if not isinstance(value, tuple) or len(value) == 0 or not isinstance(value[0], str):
        return False
    if value[0] == "sync":
        return len(value) == 1
    if value[0] == "cut":
        return len(value) == 3 and are_numbers(value[1]) and is_number(value[2], 0, MOST_AGAIN)
    return value[0] == "cut sync" and len(value) == 2 and are_numbers(value[1])


def check_events(events):
    """Raise BadEvents for a value that is no tuple of at most 200 events."""
    if not isinstance(events, tuple) or len(events) > MOST_EVENTS:
        raise BadEvents(None)
    for index, event in enumerate(events):
        if not is_event(event):
            raise BadEvents(index)


def image_by(image, writes, numbers):
    """The image that is left when numbers tell which writes are kept."""
    return image_kept(image, writes, keeping_told(writes, numbers))


def image_cut(drive, numbers, again):
    """The image that is left when power goes, and so many times again while the image is being settled."""
    image = image_by(drive.image, drive.writes, numbers)
    for _ in range(again):
        image = image_by(image, settling_writes(sound_view(image))[0], numbers)
    return image


def image_cut_in_sync(drive, numbers):
    """The image that is left when power goes while the head is written by which a sync ends."""
    return image_by(image_behind(drive.image, drive.writes), (drive.head_write(),), numbers)


class Life:
    """A drive, in its log, on which events are done; since has the deeds since it began or was synced last.

    lasting has those of the earlier deeds that were not lost.
    """

    def __init__(self, size):
        self.log = Log(Drive(new_image(size)))
        self.since = ()
        self.lasting = ()

    def go_on(self, event):
        """Do an event; a deed that is refused is not done."""
        drive = self.log.drive
        if event[0] == "sync":
            drive.sync()
            self.begin(drive)
        elif event[0] == "cut sync":
            self.begin(Drive(image_cut_in_sync(drive, event[1])))
        elif event[0] == "cut" and not isinstance(event[1], str):
            self.begin(Drive(image_cut(drive, event[1], event[2])))
        else:
            self.try_deed(event)

    def try_deed(self, deed):
        """Do a deed that may be refused."""
        try:
            self.log.do(deed)
        except KeepError:
            return
        self.since = self.since + (deed,)

    def begin(self, drive):
        """Go on with a drive behind a sync or a cut; the deeds that came up are not lost any more."""
        left = self.log.past_of(drive.cards)
        self.lasting = self.lasting + tuple([self.since[place] for place in left])
        self.since = ()
        self.log = Log(drive)


def life_behind(size, events):
    """The life of some events, and the list of the trees at first and behind each of them."""
    check_size(size)
    check_events(events)
    life = Life(size)
    trees = [life.log.drive.tree]
    for event in events:
        life.go_on(event)
        trees.append(life.log.drive.tree)
    return (life, trees)


def live(size, events):
    """The drive on which all events were done."""
    return life_behind(size, events)[0].log.drive


def counted(size, events):
    """The tuple of the deeds that were done and not lost by a cut, in order."""
    life = life_behind(size, events)[0]
    return life.lasting + life.since


def story(size, events):
    """The list of the trees of the drive, at first and behind each event."""
    return life_behind(size, events)[1]


def lines_anew(lines, others):
    """The list of the lines of a tree that are none of another one's, or are of a file whose least line is none."""
    anew = {line[0]: line[1] for line in lines_without(lines, others)}
    return [line for line in lines if line[0] in anew or (line[1] == "same" and anew.get(line[2]) == "file")]


def deeds_between(one, other):
    """A tuple of deeds by which one tree becomes another one."""
    check_tree(one)
    check_tree(other)
    drops = [("drop", line[0]) for line in lines_anew(one, other)]
    return tuple(drops[::-1] + [deed_for(line) for line in lines_anew(other, one)])
