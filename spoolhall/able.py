"""What a job needs, what a printer lacks of it, and which printers fit."""

from spoolhall.errors import NoPrinter
from spoolhall.jobs import COVER, ONE_LAYOUT, PAPER, STAPLE

BOTH_SIDES = "both"
COLOURED = "colour"


def needs(job):
    """What the job needs, in the order in which it is told."""
    told = [PAPER + job.paper]
    if job.cover is not None:
        told.append(COVER + job.cover)
    if job.layout != ONE_LAYOUT:
        told.append(BOTH_SIDES)
    if job.colour is not None:
        told.append(COLOURED)
    if job.staple:
        told.append(STAPLE)
    return told


def lacks(job, printer):
    """What the printer lacks of the job's needs, in their order."""
    return [need for need in needs(job) if not has(printer, need)]


def has(printer, need):
    """Whether the printer has the tray or can do the word."""
    for start in (PAPER, COVER):
        if need.startswith(start):
            return need[len(start):] in printer.papers()
    return need in printer.can


def fitting(job, printers):
    """The names of the printers that lack nothing, in their order, or NoPrinter."""
    rows = [(printer.name, lacks(job, printer)) for printer in printers]
    names = [name for name, missing in rows if not missing]
    if not names:
        raise NoPrinter(job.name, rows)
    return names
