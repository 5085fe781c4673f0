"""The sheets of a job's copy: how many they are, their paper and their ink."""

from spoolhall.layouts import NOTHING, layout_of

COVER_SHEET = 0


def sheets_of(job):
    """The sheets of one copy."""
    return layout_of(job.layout).laid(job.pages)


def count_of(job):
    """How many sheets a copy has."""
    holds = layout_of(job.layout).per_sheet()
    return (job.pages + holds - 1) // holds


def paper_of(job, sheet):
    """The kind of paper of a copy's sheet of this number."""
    if sheet == COVER_SHEET and job.cover is not None:
        return job.cover
    return job.paper


def ink_of(sheet, colour):
    """How many of the sheet's cells have a page that is black, and how many a coloured one."""
    printed = [cell for cell in sheet[0] + sheet[1] if cell != NOTHING]
    coloured = len([cell for cell in printed if is_coloured(cell, colour)])
    return (len(printed) - coloured, coloured)


def is_coloured(page, colour):
    """Whether the page is one of those from A to B, where colour is (A, B)."""
    return colour is not None and colour[0] <= page <= colour[1]
