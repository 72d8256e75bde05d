"""Views: what an image with a head tells, and which of its cards come up (points 18 to 21)."""

from keptanyhow.cards import card_read, pages_of_card, tails_for
from keptanyhow.images import first_free, side_page
from keptanyhow.pages import BAD, PIECE_SIGNS, told_by

BOTH_SIDES = (0, 1)


def head_number(image):
    """The number of the page that is the head of an image, None if there is none."""
    best = None
    greatest = -1
    for number in BOTH_SIDES:
        told = told_by(image[number])
        if told[0] == "head" and first_free(told[2]) + told[3] == len(image) and told[1] > greatest:
            best = number
            greatest = told[1]
    return best


def card_found(image, first, thing, side):
    """The card that is kept on a side, and the tuple of its tails; None if there is none."""
    page = image[side_page(thing, side)]
    told = told_by(page)
    if told[0] != "card" or told[1] != thing:
        return None
    _, _, stamp, period, length, tails, some = told
    for tail in tails:
        piece = told_by(image[tail]) if first <= tail < len(image) else BAD
        if piece[0] != "tail":
            return None
        some = some + piece[4]
    card = card_read(stamp, period, some[:length])
    if card is None or tails_for(length) != len(tails):
        return None
    # What the tails tell besides, and what should be 0 behind the card's bytes, shows only here.
    pages = (page,) + tuple([image[tail] for tail in tails])
    return (card, tails) if pages_of_card(thing, card, tails) == pages else None


def contents_found(image, first, thing, card):
    """The contents that the parts of a card of a file tell, None if a part is not as it should be."""
    pieces = []
    for index, (page, stamp) in enumerate(card[5]):
        told = told_by(image[page]) if first <= page < len(image) else BAD
        if told[:4] != ("data", thing, stamp, index):
            return None
        if len(told[4]) != min(PIECE_SIGNS, card[4] - PIECE_SIGNS * index):
            return None
        pieces.append(told[4])
    return "".join(pieces)


class View:
    """An image with a head, and which cards of its things are safe, open, and count."""

    def __init__(self, image, number):
        _, self.now, self.things, self.pages, self.total = told_by(image[number])
        self.held = image
        self.head = number
        self.first = first_free(self.things)
        self.found = [[card_found(image, self.first, thing, side) for side in BOTH_SIDES] for thing in self.numbers()]
        self.safe = tuple([self.safe_side(thing) for thing in self.numbers()])
        self.opened = tuple([self.open_side(thing) for thing in self.numbers()])
        self.counted = self.counting_things()
        self.sides_up = tuple([self.side_taken(thing, self.counted) for thing in self.numbers()])

    def numbers(self):
        """The list of the numbers of all things."""
        return list(range(self.things))

    def card(self, thing, side):
        """The card on a side, None if there is none, and for no side."""
        if side is None or self.found[thing][side] is None:
            return None
        return self.found[thing][side][0]

    def safe_side(self, thing):
        """The side of the safe card of a thing."""
        best = None
        for side in BOTH_SIDES:
            card = self.card(thing, side)
            if card is not None and card[1] <= self.now and (best is None or card[0] > self.card(thing, best)[0]):
                best = side
        return best

    def open_side(self, thing):
        """The side of the open card of a thing."""
        sides = []
        for side in BOTH_SIDES:
            card = self.card(thing, side)
            if card is not None and card[1] == self.now + 1:
                sides.append(side)
        if len(sides) != 1:
            return None
        card = self.card(thing, sides[0])
        if card[2] == "file" and contents_found(self.held, self.first, thing, card) is None:
            return None
        return sides[0]

    def side_taken(self, thing, taken):
        """The side of the open card of a thing if it is one of those taken, otherwise of its safe card."""
        return self.opened[thing] if thing in taken else self.safe[thing]

    def is_met(self, need, taken):
        """Whether a need holds where the open cards of some things are taken."""
        thing, stamp = need
        if thing >= self.things:
            return False
        card = self.card(thing, self.side_taken(thing, taken))
        return card is not None and card[0] >= stamp

    def counting_things(self):
        """The tuple of the things whose open card counts."""
        taken = [thing for thing in self.numbers() if self.safe[thing] is not None and self.opened[thing] is not None]
        while True:
            met = []
            for thing in taken:
                if all([self.is_met(need, taken) for need in self.card(thing, self.opened[thing])[6]]):
                    met.append(thing)
            if met == taken:
                return tuple(taken)
            taken = met

    def up_cards(self):
        """The tuple of the cards that come up."""
        return tuple([self.card(thing, self.sides_up[thing]) for thing in self.numbers()])

    def up_tails(self):
        """The tuple of the tails of each card that comes up, for a thing that has one."""
        return tuple([self.found[thing][self.sides_up[thing]][1] for thing in self.numbers()])

    def up_contents(self, thing, card):
        """The contents of a card that comes up: of a file, None if a part is not as it should be; "" of others."""
        return contents_found(self.held, self.first, thing, card) if card[2] == "file" else ""
