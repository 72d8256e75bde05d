"""Logs: which deeds wrote what on a drive since its last sync (points 34 and 44)."""


class Log:
    """A drive, and what the deeds that are done on it by this log write."""

    def __init__(self, drive):
        self.drive = drive
        self.stamps = []
        self.things = []
        # The number of each page that is written, and the place of the deed that writes it, in order.
        self.marks = []

    def do(self, deed):
        """Do a deed; one that is refused raises its error and changes nothing."""
        before = len(self.drive.writes)
        self.drive.do(deed)
        stamp = self.drive.stamp
        for number, _ in self.drive.writes[before:]:
            self.marks.append((number, len(self.stamps)))
        self.stamps.append(stamp)
        self.things.append([thing for thing, card in enumerate(self.drive.cards) if card[0] == stamp])

    def keeping_of(self, past):
        """The keeping in which each page keeps what the last deed of a past that wrote it put there."""
        times = {}
        choices = {}
        for number, place in self.marks:
            times[number] = times.get(number, 0) + 1
            if place in past:
                choices[number] = times[number]
        return tuple([choices.get(number, 0) for number in sorted(times)])

    def past_of(self, cards):
        """The places of the deeds all of whose cards, or greater ones, are among those that come up."""
        found = []
        for place, stamp in enumerate(self.stamps):
            if all([cards[thing][0] >= stamp for thing in self.things[place]]):
                found.append(place)
        return tuple(found)
