"""Layouts: how pages are laid on sheets, and how sheets are read."""

from spoolhall.words import UP

NOTHING = 0
FIRST_PAGE = 1


def cells_from(first, many, pages):
    """So many cells with the pages from first on, and nothing behind the last page."""
    return [page if page <= pages else NOTHING for page in range(first, first + many)]


class Layout:
    """So many cells on each side of a sheet, the backs printed or not."""

    def __init__(self, cells, backs):
        self.cells = cells
        self.backs = backs

    def per_sheet(self):
        """How many pages a sheet holds."""
        return 2 * self.cells if self.backs else self.cells

    def laid(self, pages):
        """The sheets of the pages 1 to the last, as few as hold them."""
        return [self.sheet_from(first, pages) for first in range(FIRST_PAGE, pages + 1, self.per_sheet())]

    def sheet_from(self, first, pages):
        """The sheet whose front begins with the page first."""
        front = cells_from(first, self.cells, pages)
        if self.backs:
            return (front, cells_from(first + self.cells, self.cells, pages))
        return (front, [NOTHING] * self.cells)

    def reading(self, sheets):
        """The cells of the sheets in the order in which they are read."""
        told = []
        for front, back in sheets:
            told.extend(front)
            if self.backs:
                told.extend(back)
        return told


class One(Layout):
    """A page on each front alone."""

    def __init__(self):
        Layout.__init__(self, 1, False)


class Both(Layout):
    """A page on each front, the next one on its back."""

    def __init__(self):
        Layout.__init__(self, 1, True)


class Several(Layout):
    """Several pages on each side."""

    def __init__(self, many):
        Layout.__init__(self, many, True)


def layout_of(text):
    """The layout that a job's text tells."""
    if text == "one":
        return One()
    if text == "both":
        return Both()
    return Several(int(text[len(UP):]))
