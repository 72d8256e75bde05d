"""Pens: how a deed's things are put on pages, and what their cards need (points 27 and 28)."""

from keptanyhow.cards import octets_of_card, pages_of_card, tails_for
from keptanyhow.errors import NoRoom
from keptanyhow.pages import PIECE_SIGNS, page_by


def pieces_of(text):
    """The list of the pieces of contents, the last one perhaps shorter than the others."""
    return [text[at:at + PIECE_SIGNS] for at in range(0, len(text), PIECE_SIGNS)]


class Pen:
    """The writes of a deed: each new part and each tail takes the least page that is free."""

    def __init__(self, stamp, spare):
        self.mark = stamp
        self.spare = list(spare)
        self.put = []

    def take(self):
        """The least page that is free, which is free no more."""
        if not self.spare:
            raise NoRoom("pages")
        return self.spare.pop(0)

    def write_parts(self, thing, text, text_before, parts_before):
        """Write the pieces of contents that are not as they were before; returns the parts of all."""
        before = pieces_of(text_before)
        parts = []
        for index, piece in enumerate(pieces_of(text)):
            if index < len(before) and before[index] == piece:
                parts.append(parts_before[index])
            else:
                number = self.take()
                self.put.append((number, page_by(("data", thing, self.mark, index, piece))))
                parts.append((number, self.mark))
        return tuple(parts)

    def write_card(self, thing, card, number):
        """Write a card on its tails and on the page of a number; returns the tails."""
        many = tails_for(len(octets_of_card(card)))
        tails = tuple([self.take() for _ in range(many)])
        pages = pages_of_card(thing, card, tails)
        for tail, page in zip(tails, pages[1:]):
            self.put.append((tail, page))
        self.put.append((number, pages[0]))
        return tails


def greatest_needs(pairs):
    """The greatest stamp of each thing, of some pairs of a thing and a stamp."""
    needs = {}
    for thing, stamp in pairs:
        if stamp > needs.get(thing, -1):
            needs[thing] = stamp
    return needs


def needs_of_act(act, cards, period, stamp):
    """All that the cards of a deed need, each thing with its stamp, the deed's own things among them."""
    pairs = [(thing, stamp) for thing in act.written]
    for thing in list(act.written) + list(act.looked):
        if cards[thing][1] == period:
            pairs.append((thing, cards[thing][0]))
            pairs.extend(cards[thing][6])
    for index in act.missed:
        _, thing, mark, more = act.gone[index]
        pairs.append((thing, mark))
        pairs.extend(more)
    return greatest_needs(pairs)


def needs_but(needs, thing):
    """The needs of the card of a thing."""
    return tuple([(other, needs[other]) for other in sorted(needs) if other != thing])
