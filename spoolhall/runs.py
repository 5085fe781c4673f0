"""Runs: one job's way through printers, piece by piece."""

from spoolhall.errors import NotNow, Nowhere, Over
from spoolhall.heaps import SLIP
from spoolhall.sheets import ink_of, paper_of, sheets_of
from spoolhall.states import READY


class Run:
    """A job's run: how many of its sheets are out, and the printer that it is at."""

    def __init__(self, job):
        self.job = job
        self.inks = [ink_of(sheet, job.colour) for sheet in sheets_of(job)]
        self.passed = 0
        self.printer = None
        self.slipped = False
        self.broken = False

    def each(self):
        """How many sheets a copy has."""
        return len(self.inks)

    def total(self):
        """How many sheets the job has."""
        return self.each() * self.job.copies

    def out(self):
        """How many of the job's sheets are out."""
        return self.passed

    def at(self):
        """The name of the printer that it is at, or None."""
        return None if self.printer is None else self.printer.name

    def whole(self):
        """Whether all sheets are out."""
        return self.passed == self.total()

    def lack(self):
        """The copy and the sheet, from 1 on, that a broken run lacks first, else None."""
        if not self.broken:
            return None
        return (self.passed // self.each() + 1, self.passed % self.each() + 1)

    def upcoming(self):
        """The tag that a step would feed, or None."""
        if self.printer is None:
            return None
        within = self.printer.within()
        if not self.slipped and not within:
            return (self.job.name, SLIP)
        # Asked of the printer itself, since it may have lost what was within without the run.
        number = self.passed + len([tag for tag in within if tag[1] != SLIP])
        return (self.job.name, number) if number < self.total() else None

    def take(self, printer):
        """Begins a piece at the printer; tells what came out at the former one."""
        self.must_go_on()
        if printer.stands() != READY:
            raise NotNow(printer.stands())
        came = self.emptied()
        if not self.whole():
            self.printer = printer
            self.slipped = False
        return came

    def drop(self):
        """Ends the run, broken if it is not whole; tells what came out."""
        self.must_go_on()
        came = self.emptied()
        self.broken = not self.whole()
        self.printer = None
        return came

    def step(self):
        """Feeds what comes next, or pushes; tells what came out."""
        self.must_be_placed()
        tag = self.upcoming()
        return self.note_out(self.printer.push() if tag is None else self.fed(tag))

    def jam(self, saved):
        """Jams its printer; tells what came out and what was lost."""
        self.must_be_placed()
        told = self.printer.jam(saved)
        self.note_out(told[0])
        return told

    def must_go_on(self):
        """Refuses what a run that is whole or broken does not do."""
        if self.broken or self.whole():
            raise Over(self.job.name)

    def must_be_placed(self):
        """Refuses what a run does at a printer alone."""
        self.must_go_on()
        if self.printer is None:
            raise Nowhere(self.job.name)

    def used_by(self, tag):
        """What the tag's sheet uses: its kind of paper, black and coloured ink."""
        if tag[1] == SLIP:
            return (self.job.paper, 0, 0)
        sheet = tag[1] % self.each()
        ink = self.inks[sheet]
        return (paper_of(self.job, sheet), ink[0], ink[1])

    def fed(self, tag):
        """Feeds the printer with the tag's sheet; tells what came out."""
        used = self.used_by(tag)
        return self.printer.feed(tag, used[0], used[1], used[2])

    def emptied(self):
        """Lets all that is within its printer come out; tells it."""
        came = []
        while self.printer is not None and self.printer.within():
            came.extend(self.note_out(self.printer.push()))
        return came

    def note_out(self, tags):
        """Notes what came out: with the last sheet the run is at no printer any more."""
        for tag in tags:
            if tag[1] == SLIP:
                self.slipped = True
            else:
                self.passed += 1
        if self.whole():
            self.printer = None
        return tags
