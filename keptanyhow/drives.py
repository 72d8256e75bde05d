"""Drives: deeds on an image, and what is written of them (points 25 to 29)."""

from keptanyhow.acts import Act, many_made, play
from keptanyhow.deeds import check_deed, tree_behind
from keptanyhow.errors import NoRoom, NotThere
from keptanyhow.images import check_image, check_keeping, first_free, image_behind, image_kept, side_page
from keptanyhow.limits import MOST_STAMP
from keptanyhow.pages import page_by
from keptanyhow.pens import Pen, needs_but, needs_of_act
from keptanyhow.scans import check_period, image_settled, sound_view, stamp_found, tree_found
from keptanyhow.trees import kind_at
from keptanyhow.ways import check_way, names_in


class Drive:
    """An image that is lasting, and the deeds done on it since the last sync."""

    def __init__(self, image):
        check_image(image)
        self._start(image)

    @property
    def image(self):
        """The image as it is lasting."""
        return self._image

    @property
    def tree(self):
        """The tree as all deeds leave it."""
        return self._tree

    @property
    def deeds(self):
        """The tuple of the deeds since the last sync."""
        return self._deeds

    @property
    def writes(self):
        """The writes that these deeds made, in order."""
        return self._writes

    @property
    def period(self):
        """The running period."""
        return self._period

    @property
    def stamp(self):
        """The stamp of the last deed."""
        return self._stamp

    @property
    def cards(self):
        """The tuple of the cards of all things as they are now."""
        return self._cards

    @property
    def room(self):
        """How many things and how many pages are free."""
        return self._room

    def do(self, deed):
        """Do a deed."""
        check_deed(deed)
        tree = tree_behind(self._tree, (deed,))
        act = self._acted(deed)
        stamp = self._stamp + 1
        pen = Pen(stamp, self._free)
        needs = needs_of_act(act, self._cards, self._period, stamp)
        cards = list(self._cards)
        tails = list(self._tails)
        for thing in sorted(act.written):
            cards[thing] = self._new_card(act, pen, thing, needs)
            tails[thing] = pen.write_card(thing, cards[thing], side_page(thing, 1 - self._sides[thing]))
        # Only now, as a lack of pages is told ahead of a lack of stamps.
        if stamp > MOST_STAMP:
            raise NoRoom("stamps")
        self._tree = tree
        self._deeds = self._deeds + (deed,)
        self._writes = self._writes + tuple(pen.put)
        self._stamp = stamp
        self._cards = tuple(cards)
        self._tails = tuple(tails)
        self._texts = tuple(act.texts)
        self._gone = self._gone + tuple([(place, thing, stamp, cards[thing][6]) for place, thing in act.left])
        self._free = tuple(pen.spare)
        self._room = (len(self._free_things()), len(self._free))

    def sync(self):
        """Make all writes lasting, and then a head."""
        write = self.head_write()
        self._image = image_behind(self._image, self._writes + (write,))
        self._head = write[0]
        self._sides = tuple([
            1 - side if card[1] == self._period else side for side, card in zip(self._sides, self._cards)
        ])
        self._period = self._period + 1
        self._rest()

    def head_write(self):
        """The write of the head by which a sync ends."""
        check_period(self._period)
        things, pages = self._size
        page = page_by(("head", self._period, things, pages, sum([card[0] for card in self._cards])))
        return (1 - self._head, page)

    def cut(self, keeping):
        """End the power, and begin again with what is kept of the writes."""
        check_keeping(self._writes, keeping)
        self._start(image_kept(self._image, self._writes, keeping))

    def unsynced(self, way):
        """Whether what stands at a way was written since the last sync."""
        check_way(way)
        if kind_at(self._tree, way) is None:
            raise NotThere("nothing stands there")
        places = self._places()
        thing = 0
        for name in names_in(way):
            thing = places[(thing, name)]
        return self._cards[thing][1] == self._period

    def state(self):
        """All that the drive knows, to go back to."""
        return (
            self._image, self._tree, self._head, self._size, self._period, self._stamp, self._cards, self._tails,
            self._sides, self._texts, self._deeds, self._writes, self._gone, self._free, self._room,
        )

    def back_to(self, state):
        """Be again as the drive was when it told a state."""
        self._image, self._tree, self._head, self._size, self._period, self._stamp, self._cards, self._tails = state[:8]
        self._sides, self._texts, self._deeds, self._writes, self._gone, self._free, self._room = state[8:]

    def _start(self, image):
        """Begin with an image whose pages are known to be such."""
        view = sound_view(image)
        self._image = image_settled(view)
        self._tree = tree_found(view)
        self._head = 1 - view.head
        self._size = (view.things, view.pages)
        self._period = view.now + 2
        self._stamp = stamp_found(image)
        self._cards = view.up_cards()
        self._tails = view.up_tails()
        self._sides = view.sides_up
        self._texts = tuple([view.up_contents(thing, card) for thing, card in enumerate(self._cards)])
        self._rest()

    def _rest(self):
        """Begin a period, in which no deed is done yet."""
        self._deeds = ()
        self._writes = ()
        # What left a place since the last sync: the place, the thing, the stamp and the needs of the card that it got.
        self._gone = ()
        held = [part[0] for card in self._cards for part in card[5]] + [tail for tails in self._tails for tail in tails]
        numbers = list(range(first_free(self._size[0]), len(self._image)))
        self._free = tuple([number for number in numbers if number not in held])
        self._room = (len(self._free_things()), len(self._free))

    def _free_things(self):
        """The list of the things that are free."""
        cards = self._cards
        return [thing for thing, card in enumerate(cards) if card[2] == "none" and card[1] != self._period]

    def _places(self):
        """The thing at each place."""
        return {place: thing for thing, card in enumerate(self._cards) for place in card[3]}

    def _acted(self, deed):
        """The act of a deed that is not refused."""
        spare = self._free_things()
        if many_made(deed) > len(spare):
            raise NoRoom("things")
        act = Act(self._places(), [card[2] for card in self._cards], self._texts, self._gone, spare)
        play(act, deed)
        return act

    def _new_card(self, act, pen, thing, needs):
        """The card of a thing behind a deed, whose new parts are written."""
        text = act.texts[thing]
        parts = pen.write_parts(thing, text, self._texts[thing], self._cards[thing][5])
        places = act.places_of(thing)
        return (pen.mark, self._period, act.kinds[thing], places, len(text), parts, needs_but(needs, thing))
