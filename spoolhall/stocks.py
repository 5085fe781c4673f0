"""Stocks: how many there are of each of some names, never more than its room."""

from spoolhall.errors import Dry, TooMuch, Unknown


class Stock:
    """Rooms by their names, all empty at first."""

    def __init__(self, rooms):
        self.rooms = dict(rooms)
        self.amounts = dict([(name, 0) for name in rooms])

    def held(self, name):
        """How many there are of the name."""
        self.know(name)
        return self.amounts[name]

    def room(self, name):
        """How many of the name there can be."""
        self.know(name)
        return self.rooms[name]

    def know(self, name):
        """Refuses a name that the stock has not."""
        if name not in self.rooms:
            raise Unknown(name)

    def know_all(self, rows):
        """Refuses the first name that the stock has not, in a list of (name, many)."""
        # All names are looked at first: one that is unknown goes ahead of all else, wherever it stands.
        for row in rows:
            self.know(row[0])

    def put(self, name, many):
        """Puts so many of the name."""
        self.put_all([(name, many)])

    def put_all(self, gifts):
        """Puts all or none of a list of (name, many)."""
        self.know_all(gifts)
        for name, many in gifts:
            if self.amounts[name] + many > self.rooms[name]:
                raise TooMuch(name)
        for name, many in gifts:
            self.amounts[name] += many

    def draw_all(self, wants):
        """Draws all or none of a list of (name, many)."""
        self.know_all(wants)
        for name, many in wants:
            if self.amounts[name] < many:
                raise Dry(name)
        for name, many in wants:
            self.amounts[name] -= many
