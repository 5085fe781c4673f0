"""A hall's plans for a printer's able jobs, and how many copies of a job lie whole."""

from spoolhall.book import FEED
from spoolhall.changes import JOBS_MOST, fewest
from spoolhall.sheets import count_of
from spoolhall.walks import walks

NO_KIND = ""


def change_plan(hall, printer):
    """The printer's first able jobs in an order with the fewest changes of paper, and how many these are."""
    rows = rows_of(hall, hall.able(printer)[:JOBS_MOST])
    kinds = [[hall.job_of(name).paper for name in row] for row in rows]
    told = fewest(kinds, last_kind(hall.book(), printer))
    return (mixed(rows, told[0]), told[1])


def rows_of(hall, names):
    """The names by their askers, a row for each."""
    rows = {}
    for name in names:
        rows.setdefault(hall.job_of(name).asker, []).append(name)
    return list(rows.values())


def last_kind(rows, printer):
    """The kind of paper that the printer fed last by the book, or the text without signs."""
    for row in reversed(rows):
        if row[0] == FEED and row[1] == printer:
            return row[2]
    return NO_KIND


def mixed(rows, order):
    """The rows' names, taken one by one from the rows of these places."""
    done = [0] * len(rows)
    told = []
    for place in order:
        told.append(rows[place][done[place]])
        done[place] += 1
    return told


def hand_plan(hall, printer):
    """The printer's able jobs by the forecast, and the places of those ahead of which the hand goes."""
    names = hall.forecast(hall.able(printer))
    trays = hall.tray_rows(printer)
    places = dict([(row[0], place) for place, row in enumerate(trays)])
    needs = [need_of(hall.job_of(name), places) for name in names]
    told = walks([row[1] for row in trays], [row[2] for row in trays], needs)
    return (names, told[0])


def need_of(job, places):
    """What the job needs of the trays at these places: (tray, many), with a slip of its paper."""
    sheets = count_of(job) * job.copies
    paper = places[job.paper]
    # A cover of the job's own paper comes out of the same tray, and no tray is told twice.
    if job.cover is None or job.cover == job.paper:
        return [(paper, sheets + 1)]
    return [(paper, sheets - job.copies + 1), (places[job.cover], job.copies)]


def copies_whole(hall, job):
    """How many of the job's copies have all their sheets in the heaps."""
    # Sheets come out in their order, one copy behind the other.
    return hall.sheets_out(job) // count_of(hall.job_of(job))
