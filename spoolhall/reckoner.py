"""What a book tells: its sums, whether it can be, its heaps, and what a printer holds by it."""

from spoolhall.book import FEED, INK, LOAD, LOST, OUT

SUMS = 8


def sums(rows):
    """For each printer: sheets loaded, fed, out, lost; black filled in, used; coloured filled in, used."""
    told = {}
    for row in rows:
        account = told.setdefault(row[1], no_sums())
        for place, many in entries(row):
            account[place] += many
    return told


def no_sums():
    """The sums of a printer that does not stand in a book."""
    return [0] * SUMS


def entries(row):
    """What a row adds to the sums of its printer: (place, many)."""
    if row[0] == LOAD:
        return [(0, row[3])]
    if row[0] == INK:
        return [(4, row[2]), (6, row[3])]
    if row[0] == FEED:
        return [(1, 1), (5, row[5]), (7, row[6])]
    return [(2, 1)] if row[0] == OUT else [(3, 1)]


class Account:
    """What a printer holds, and what is within it, by the book's rows so far."""

    def __init__(self):
        self.stacks = {}
        self.black = 0
        self.coloured = 0
        self.fed_tags = []

    def allows(self, row, path):
        """Whether the row can be, behind those so far."""
        if row[0] == FEED:
            return len(self.fed_tags) <= path and self.has_for(row)
        if row[0] in (OUT, LOST):
            return self.fed_tags[:1] == [(row[2], row[3])]
        return True

    def has_for(self, row):
        """Whether there is what a feed uses."""
        return self.stacks.get(row[2], 0) > 0 and self.black >= row[5] and self.coloured >= row[6]

    def enter(self, row):
        """Goes on by a row that can be."""
        if row[0] == LOAD:
            self.stacks[row[2]] = self.stacks.get(row[2], 0) + row[3]
        elif row[0] == INK:
            self.add_ink(row[2], row[3])
        elif row[0] == FEED:
            self.stacks[row[2]] -= 1
            self.add_ink(-row[5], -row[6])
            self.fed_tags.append((row[3], row[4]))
        else:
            self.fed_tags.pop(0)

    def add_ink(self, black, coloured):
        """Adds so much of both inks, less than none where it is used."""
        self.black += black
        self.coloured += coloured


def first_wrong(rows, paths):
    """The place of the first row that can not be, or None."""
    accounts = dict([(printer, Account()) for printer in paths])
    for place, row in enumerate(rows):
        printer = row[1]
        if printer not in accounts or not accounts[printer].allows(row, paths[printer]):
            return place
        accounts[printer].enter(row)
    return None


def heaps_of(rows):
    """The tags that went out, for each printer that stands in the book."""
    heaps = {}
    for row in rows:
        heap = heaps.setdefault(row[1], [])
        if row[0] == OUT:
            heap.append((row[2], row[3]))
    return heaps


def held_of(rows, printer):
    """What the printer holds by a book that can be: papers by their kinds, black, coloured."""
    account = Account()
    for row in rows:
        if row[1] == printer:
            account.enter(row)
    return (account.stacks, account.black, account.coloured)
