"""Printers: what they hold, what is within them, what comes out and what is lost."""

from spoolhall.errors import Dry, NotNow, TooMuch
from spoolhall.states import READY, Ready
from spoolhall.stocks import Stock

BLACK = "black"
COLOUR = "colour"
WITHIN = "within"


class Printer:
    """A printer with its trays, its inks and the tags on their path through it."""

    def __init__(self, name, can, path, papers, black, colour):
        self.name = name
        self.can = tuple(can)
        self.path = path
        self.rooms = dict(papers)
        self.trays = Stock(papers)
        self.inks = Stock({BLACK: black, COLOUR: colour})
        self.state = Ready()
        self.inside = []

    def stands(self):
        """The state's word."""
        return self.state.called()

    def papers(self):
        """The rooms by their kinds of paper."""
        return dict(self.rooms)

    def paper_left(self, kind):
        """How many sheets of the kind there are."""
        return self.trays.held(kind)

    def ink_left(self):
        """How much black and how much coloured ink there is."""
        return (self.inks.held(BLACK), self.inks.held(COLOUR))

    def within(self):
        """The tags within, the oldest first."""
        return list(self.inside)

    def load(self, kind, many):
        """Lays so many sheets into the kind's tray."""
        self.trays.put(kind, many)

    def fill(self, black, coloured):
        """Fills in both inks, or none."""
        self.inks.put_all([(BLACK, black), (COLOUR, coloured)])

    def must_be_ready(self):
        """Refuses what only a ready printer does."""
        if self.stands() != READY:
            raise NotNow(self.stands())

    def feed(self, tag, kind, black, coloured):
        """Lays a tag within; tells the oldest, if it must come out for that."""
        self.must_be_ready()
        if self.paper_left(kind) < 1:
            raise Dry(kind)
        # The inks go first: they are drawn all or none, and the paper is known to be there.
        self.inks.draw_all([(BLACK, black), (COLOUR, coloured)])
        self.trays.draw_all([(kind, 1)])
        self.inside.append(tag)
        return self.oldest() if len(self.inside) > self.path else []

    def push(self):
        """Lets the oldest within come out, if there is one."""
        self.must_be_ready()
        return self.oldest()

    def oldest(self):
        """Takes the oldest tag out, if there is one."""
        return [self.inside.pop(0)] if self.inside else []

    def jam(self, saved):
        """Jams: so many of the oldest come out, all others are lost."""
        jammed = self.state.jam()
        if saved > len(self.inside):
            raise TooMuch(WITHIN)
        out = self.inside[:saved]
        lost = self.inside[saved:]
        self.inside = []
        self.state = jammed
        return (out, lost)

    def leave(self):
        """Goes off; tells what is lost by it."""
        self.state = self.state.leave()
        lost = self.inside
        self.inside = []
        return lost

    def mend(self):
        """Mends a jam; tells the state's word then."""
        self.state = self.state.mend()
        return self.stands()

    def come(self):
        """Comes back; tells the state's word then."""
        self.state = self.state.come()
        return self.stands()
