"""Scans: what comes up of an image, and what is wrong with it (points 18 to 24)."""

from keptanyhow.cards import is_card
from keptanyhow.errors import BadCard, BadNumber, NoHead, NoRoom, Unsound
from keptanyhow.images import check_image, image_behind, side_page
from keptanyhow.limits import MOST_STAMP, is_number
from keptanyhow.pages import BLANK, page_by, told_by
from keptanyhow.trees import tree_of_spots
from keptanyhow.views import BOTH_SIDES, View, contents_found, head_number
from keptanyhow.ways import way_of


def is_folder_up(up, thing):
    """Whether a thing comes up as a folder; one that the image does not have does not."""
    return thing < len(up) and up[thing][2] == "folder"


def place_faults(up):
    """The faults of things, thing 0 being none of them, that stand where they cannot stand, or nowhere."""
    wrong = []
    known = set()
    for thing, card in enumerate(up):
        misplaced = len(card[3]) == 0 and card[2] != "none"
        for place in card[3]:
            if place in known or not is_folder_up(up, place[0]):
                misplaced = True
            known.add(place)
        if misplaced and thing > 0:
            wrong.append(("place", thing))
    return wrong


def leads_home(up, thing):
    """Whether the folders of places lead from a folder to thing 0."""
    at = thing
    # A way that is no ring has fewer steps than there are things.
    for _ in range(len(up)):
        if at == 0:
            return True
        if not is_folder_up(up, at) or len(up[at][3]) == 0:
            return False
        at = up[at][3][0][0]
    return False


def ring_faults(up):
    """The faults of folders from which thing 0 is not reached."""
    rings = []
    for thing in range(len(up)):
        if is_folder_up(up, thing) and not leads_home(up, thing):
            rings.append(("ring", thing))
    return rings


def shared_faults(view, up):
    """The faults of pages that stand twice among the parts and tails."""
    once = set()
    twice = set()
    for card, tails in zip(up, view.up_tails()):
        for number in [part[0] for part in card[5]] + list(tails):
            if number in once:
                twice.add(number)
            once.add(number)
    return [("shared", number) for number in sorted(twice)]


def faults_found(view):
    """The tuple of the faults of an image with a head."""
    safeless = [("safe", thing) for thing in view.numbers() if view.safe[thing] is None]
    if safeless:
        return tuple(safeless)
    up = view.up_cards()
    stamps = [view.card(thing, view.safe[thing])[0] for thing in view.numbers()]
    wrong = [] if sum(stamps) == view.total else [("sum",)]
    wrong += [("part", thing) for thing, card in enumerate(up) if view.up_contents(thing, card) is None]
    if up[0][2] != "folder" or len(up[0][3]) > 0:
        wrong.append(("root",))
    return tuple(wrong + place_faults(up) + ring_faults(up) + shared_faults(view, up))


def view_of(image):
    """The view of a value that is to be an image with a head."""
    check_image(image)
    number = head_number(image)
    if number is None:
        raise NoHead("no head")
    return View(image, number)


def sound_view(image):
    """The view of an image that is to be sound, all its pages being known to be such."""
    number = head_number(image)
    if number is None:
        raise NoHead("no head")
    view = View(image, number)
    wrong = faults_found(view)
    if wrong:
        raise Unsound(wrong)
    return view


def folder_names(up, thing):
    """The list of the names on the way of a folder of a sound image."""
    names = []
    at = thing
    while at != 0:
        folder, name = up[at][3][0]
        names.append(name)
        at = folder
    return names[::-1]


def tree_found(view):
    """The tree that comes up of a sound image."""
    up = view.up_cards()
    spots = {}
    texts = {}
    for thing, card in enumerate(up):
        for folder, name in card[3]:
            spots[way_of(tuple(folder_names(up, folder) + [name]))] = None if card[2] == "folder" else thing
        texts[thing] = view.up_contents(thing, card)
    return tree_of_spots(spots, texts)


def check_period(period):
    """Raise NoRoom for a period with which no head can be written, as none could follow it."""
    if period >= MOST_STAMP:
        raise NoRoom("periods")


def settling_writes(view):
    """The two parts of the writes that settle a sound image."""
    check_period(view.now + 1)
    blanks = []
    for thing in view.numbers():
        for side in BOTH_SIDES:
            number = side_page(thing, side)
            told = told_by(view.held[number])
            counts = thing in view.counted and view.opened[thing] == side
            if told[0] == "card" and told[3] > view.now and not counts:
                blanks.append((number, BLANK))
    total = sum([card[0] for card in view.up_cards()])
    head = page_by(("head", view.now + 1, view.things, view.pages, total))
    return (tuple(blanks), ((1 - view.head, head),))


def image_settled(view):
    """The settled image of a sound one."""
    blanks, heads = settling_writes(view)
    return image_behind(view.held, blanks + heads)


def head_of(image):
    """The number of the page of the head of an image, its period and its sum."""
    view = view_of(image)
    return (view.head, view.now, view.total)


def size_of(image):
    """The size of an image."""
    view = view_of(image)
    return (view.things, view.pages)


def check_thing(view, thing):
    """Raise BadNumber for a thing that an image does not have."""
    if not is_number(thing, 0, view.things - 1):
        raise BadNumber("no thing of the image")


def card_on(image, thing, side):
    """The card that is kept on a side of a thing, None if there is none."""
    view = view_of(image)
    check_thing(view, thing)
    if not is_number(side, 0, 1):
        raise BadNumber("no side")
    return view.card(thing, side)


def contents_on(image, thing, card):
    """The contents that the parts of a card of a file tell, None if a part is not as it should be."""
    view = view_of(image)
    check_thing(view, thing)
    if not is_card(card) or card[2] != "file":
        raise BadCard("no card of a file")
    return contents_found(image, view.first, thing, card)


def safe_sides(image):
    """The tuple of the sides of the safe cards of all things, None for a thing without."""
    return view_of(image).safe


def open_sides(image):
    """The tuple of the sides of the open cards of all things, None for a thing without."""
    return view_of(image).opened


def counting(image):
    """The ascending tuple of the things whose open card counts."""
    return view_of(image).counted


def cards_up(image):
    """The tuple of what comes up of all things, None for a thing without a card."""
    return view_of(image).up_cards()


def faults(image):
    """The tuple of what is wrong with an image, () for a sound one."""
    check_image(image)
    number = head_number(image)
    return (("head",),) if number is None else faults_found(View(image, number))


def tree_up(image):
    """The tree that comes up of a sound image."""
    check_image(image)
    return tree_found(sound_view(image))


def stamp_found(image):
    """The greatest stamp that a page of an image tells, 0 without one."""
    stamps = [0]
    for page in image:
        told = told_by(page)
        if told[0] in ("card", "tail", "data"):
            stamps.append(told[2])
    return max(stamps)


def greatest_stamp(image):
    """The greatest stamp that any page of an image tells as a card, tail or data, 0 without one."""
    check_image(image)
    return stamp_found(image)


def settling(image):
    """The pair of writes that end the period of a sound image."""
    check_image(image)
    return settling_writes(sound_view(image))


def settled(image):
    """The image behind both writes of settling."""
    check_image(image)
    return image_settled(sound_view(image))
