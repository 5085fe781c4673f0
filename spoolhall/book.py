"""The book: a row for all that printers are given, feed, let out and lose."""

LOAD = "load"
INK = "ink"
FEED = "feed"
OUT = "out"
LOST = "lost"


class Book:
    """Rows, as they were written."""

    def __init__(self):
        self.rows = []

    def write(self, row):
        """Writes a row behind all others."""
        self.rows.append(row)

    def told(self):
        """The rows, in their order."""
        return list(self.rows)
