"""Cards: what is kept of one thing, its bytes and its pages (points 12 to 14)."""

from keptanyhow.errors import BadBytes, BadCard, BadNumber, BadTails
from keptanyhow.limits import is_number, is_page_number, is_stamp, is_thing
from keptanyhow.octets import MOST_BYTES, is_bytes, number_octets, octets_number, octets_text, text_octets
from keptanyhow.pages import CARD_BYTES, PIECE_SIGNS, TAIL_BYTES, are_tails, page_by
from keptanyhow.trees import MOST_WAYS
from keptanyhow.ways import MOST_SIGNS, is_name

# By their bytes.
KINDS = ("none", "folder", "file")
FEWEST_PLACES = {"none": 0, "folder": 0, "file": 1}
MOST_PLACES = {"none": 0, "folder": 1, "file": MOST_WAYS}
MOST_NEEDS = 23


def many_pieces(length):
    """How many pieces contents of a length have, the last one perhaps shorter."""
    return (length + PIECE_SIGNS - 1) // PIECE_SIGNS


def is_pair(value):
    """Whether a value is a tuple of two items."""
    return isinstance(value, tuple) and len(value) == 2


def is_place(value):
    """Whether a value is a pair of the number of a thing and a name."""
    return is_pair(value) and is_thing(value[0]) and is_name(value[1])


def is_part(value):
    """Whether a value is a pair of the number of a page and a stamp."""
    return is_pair(value) and is_page_number(value[0]) and is_stamp(value[1])


def is_need(value):
    """Whether a value is a pair of the number of a thing and a stamp."""
    return is_pair(value) and is_thing(value[0]) and is_stamp(value[1])


def are_places(value, kind):
    """Whether a value is the places of a card of a kind."""
    if not isinstance(value, tuple) or not FEWEST_PLACES[kind] <= len(value) <= MOST_PLACES[kind]:
        return False
    if not all([is_place(place) for place in value]):
        return False
    return all([one < other for one, other in zip(value, value[1:])])


def are_parts(value, count):
    """Whether a value is a tuple of so many parts."""
    return isinstance(value, tuple) and len(value) == count and all([is_part(part) for part in value])


def are_needs(value):
    """Whether a value is the needs of a card."""
    if not isinstance(value, tuple) or len(value) > MOST_NEEDS or not all([is_need(need) for need in value]):
        return False
    return all([one[0] < other[0] for one, other in zip(value, value[1:])])


def is_card(value):
    """Whether a value is a card."""
    if not isinstance(value, tuple) or len(value) != 7:
        return False
    stamp, period, kind, places, length, parts, needs = value
    if not is_stamp(stamp) or not is_stamp(period) or not isinstance(kind, str) or kind not in KINDS:
        return False
    if not are_places(places, kind) or not is_number(length, 0, MOST_SIGNS if kind == "file" else 0):
        return False
    return are_parts(parts, many_pieces(length)) and are_needs(needs)


def check_card(card):
    """Raise BadCard for a value that is no card."""
    if not is_card(card):
        raise BadCard("no card")


def octets_of_card(card):
    """The bytes of a value that is known to be a card."""
    _, _, kind, places, length, parts, needs = card
    found = (KINDS.index(kind), len(places))
    for folder, name in places:
        found = found + (folder, len(name)) + text_octets(name)
    found = found + number_octets(length, 2)
    for page, stamp in parts:
        found = found + (page,) + number_octets(stamp, 3)
    found = found + (len(needs),)
    for thing, stamp in needs:
        found = found + (thing,) + number_octets(stamp, 3)
    return found


class Reader:
    """Bytes that are read one after another; what lies behind their end is read as nothing, or as 0."""

    def __init__(self, some):
        self.some = some
        self.at = 0

    def take(self, count):
        """The next bytes."""
        taken = self.some[self.at:self.at + count]
        self.at += count
        return taken

    def number(self, count):
        """The integer of the next bytes."""
        return octets_number(self.take(count))

    def place(self):
        """The next place, whose name is None if these are no codes of signs."""
        folder = self.number(1)
        many = self.number(1)
        return (folder, octets_text(self.take(many)))

    def pair(self):
        """The next part or need."""
        first = self.number(1)
        return (first, self.number(3))


def card_read(stamp, period, some):
    """The card of just these bytes, None if there is none."""
    reader = Reader(some)
    kind = reader.number(1)
    places = tuple([reader.place() for _ in range(reader.number(1))])
    length = reader.number(2)
    parts = tuple([reader.pair() for _ in range(many_pieces(length))])
    needs = tuple([reader.pair() for _ in range(reader.number(1))])
    if kind >= len(KINDS):
        return None
    card = (stamp, period, KINDS[kind], places, length, parts, needs)
    # What is lacking or too much shows only when the bytes are made again.
    return card if is_card(card) and octets_of_card(card) == some else None


def tails_for(many):
    """How many tails a card of so many bytes needs."""
    count = 0
    while CARD_BYTES - count + TAIL_BYTES * count < many:
        count += 1
    return count


def padded(some, count):
    """Some bytes, and as many 0 behind them as there are fewer than so many."""
    return some + (0,) * (count - len(some))


def pages_of_card(thing, card, tails):
    """The page of a card and those of its tails, the arguments being known to be right."""
    some = octets_of_card(card)
    first = CARD_BYTES - len(tails)
    told = ("card", thing, card[0], card[1], len(some), tails, padded(some[:first], first))
    found = [page_by(told)]
    for index in range(len(tails)):
        begin = first + TAIL_BYTES * index
        piece = padded(some[begin:begin + TAIL_BYTES], TAIL_BYTES)
        found.append(page_by(("tail", thing, card[0], index, piece)))
    return tuple(found)


def card_bytes(card):
    """The bytes of a card."""
    check_card(card)
    return octets_of_card(card)


def bytes_card(stamp, period, some):
    """The card of a stamp, a period and just these bytes, None if there is none."""
    if not is_stamp(stamp) or not is_stamp(period):
        raise BadNumber("no stamp or no period")
    if not is_bytes(some, MOST_BYTES):
        raise BadBytes("no bytes")
    return card_read(stamp, period, some)


def tails_needed(card):
    """How many tails a card needs."""
    check_card(card)
    return tails_for(len(octets_of_card(card)))


def card_pages(thing, card, tails):
    """The page of a card of a thing and those of its tails, which are kept on pages of these numbers."""
    if not is_thing(thing):
        raise BadNumber("no thing")
    check_card(card)
    count = tails_for(len(octets_of_card(card)))
    if not are_tails(tails, count) or len(tails) != count:
        raise BadTails("not as many numbers of pages as needed")
    return pages_of_card(thing, card, tails)
