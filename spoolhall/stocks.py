"""Stocks: how many there are of each of some names, never more than its room."""

from spoolhall.errors import Dry, TooMuch, Unknown


class Stock:
    """Rooms by their names, all empty at first."""

    def __init__(self, rooms):
        self.rooms = dict(rooms)
        self.amounts = dict([(name, 0) for name in rooms])

    def held(self, name):
        """How many there are of the name."""
        self.know(name)
        return self.amounts[name]

    def room(self, name):
        """How many of the name there can be."""
        self.know(name)
        return self.rooms[name]

    def know(self, name):
        """Refuses a name that the stock has not."""
        if name not in self.rooms:
            raise Unknown(name)

    def put(self, name, many):
        """Puts so many of the name."""
        if self.held(name) + many > self.room(name):
            raise TooMuch(name)
        self.amounts[name] += many

    def draw_all(self, wants):
        """Draws all or none of a list of (name, many)."""
        # All names are looked at first: one that is unknown goes ahead of one that is dry, wherever it stands.
        for want in wants:
            self.know(want[0])
        for name, many in wants:
            if self.amounts[name] < many:
                raise Dry(name)
        for name, many in wants:
            self.amounts[name] -= many
