"""The hall: its printers and askers, the jobs on their way, and the book of all that is done."""

from spoolhall.able import fitting, lacks
from spoolhall.book import FEED, INK, LOAD, LOST, OUT, Book
from spoolhall.errors import Busy, HallError, NotNow, Nowhere, Twice, Unknown
from spoolhall.jobs import cost, read_job
from spoolhall.line import Line
from spoolhall.printers import Printer
from spoolhall.runs import Run
from spoolhall.waits import doomed

WAITS = "waits"
PRINTS = "prints"
WHOLE = "whole"
BROKEN = "broken"


class Hall:
    """Printers with their heaps, the line, a run for each job, and the book."""

    def __init__(self):
        self.printers = {}
        self.piles = {}
        self.line = Line()
        self.runs = {}
        self.records = Book()

    def add_printer(self, name, can, path, papers, black, colour):
        """Adds a printer, which is ready and empty."""
        if name in self.printers:
            raise Twice(name)
        self.printers[name] = Printer(name, can, path, papers, black, colour)
        self.piles[name] = []

    def add_asker(self, name, rank, share):
        """Adds an asker."""
        self.line.add_asker(name, rank, share)

    def lay(self, line):
        """Lays in the job that the line tells, which waits then; tells its name."""
        job = read_job(line)
        self.line.must_know(job.asker)
        if job.name in self.runs:
            raise Twice(job.name)
        fitting(job, list(self.printers.values()))
        self.line.lay(job.name, job.asker, cost(job))
        self.runs[job.name] = Run(job)
        return job.name

    def start(self, printer):
        """Takes one of the able jobs from the line to the printer; tells its name, or None of no able ones."""
        machine = self.printer_of(printer)
        machine.must_be_ready()
        self.must_be_free(printer, None)
        taken = self.line.take(self.able(printer))
        if taken is not None:
            self.runs[taken].take(machine)
        return taken

    def step(self, printer, many):
        """Does so many steps at the printer, or as many as can be; tells how many."""
        self.printer_of(printer)
        for done in range(many):
            # Only what refuses the first step refuses the whole.
            if done == 0:
                self.one_step(printer)
            elif not self.another_step(printer):
                return done
        return many

    def one_step(self, printer):
        """Does a step at the printer."""
        run = self.run_at(printer)
        if run is None:
            raise Nowhere(printer)
        tag = run.upcoming()
        came = run.step()
        if tag is not None:
            used = run.used_by(tag)
            self.records.write((FEED, printer, used[0], tag[0], tag[1], used[1], used[2]))
        self.write_out(printer, came)

    def another_step(self, printer):
        """Does a step at the printer, if it is not refused; tells whether it was done."""
        try:
            self.one_step(printer)
        except HallError:
            return False
        return True

    def jam(self, printer, saved):
        """Jams the printer; tells what came out and what is lost."""
        machine = self.printer_of(printer)
        run = self.run_at(printer)
        told = machine.jam(saved) if run is None else run.jam(saved)
        self.write_out(printer, told[0])
        self.write_lost(printer, told[1])
        return told

    def leave(self, printer):
        """Lets the printer go off; tells what is lost."""
        lost = self.printer_of(printer).leave()
        self.write_lost(printer, lost)
        return lost

    def mend(self, printer):
        """Mends the printer; tells its state's word then."""
        return self.printer_of(printer).mend()

    def come(self, printer):
        """Lets the printer come back; tells its state's word then."""
        return self.printer_of(printer).come()

    def load(self, printer, kind, many):
        """Lays so many sheets into the kind's tray."""
        self.printer_of(printer).load(kind, many)
        self.records.write((LOAD, printer, kind, many))

    def fill(self, printer, black, coloured):
        """Fills in both inks."""
        self.printer_of(printer).fill(black, coloured)
        self.records.write((INK, printer, black, coloured))

    def take(self, job, printer):
        """Lets the printer take over a job that prints; tells the job's word then."""
        run = self.run_of(job)
        machine = self.printer_of(printer)
        if self.job_word(job) != PRINTS:
            raise NotNow(self.job_word(job))
        self.must_be_free(printer, job)
        fitting(run.job, [machine])
        former = run.at()
        self.write_out(former, run.take(machine))
        return self.job_word(job)

    def drop(self, job):
        """Drops a job that waits or prints; tells its word then."""
        run = self.run_of(job)
        if self.job_word(job) == WAITS:
            self.line.pull(job)
        former = run.at()
        # A job that waited has nothing within: its run, never begun, is broken at its first sheet.
        self.write_out(former, run.drop())
        return self.job_word(job)

    def job_word(self, job):
        """Whether the job waits, prints, is whole or broken."""
        run = self.run_of(job)
        if job in self.line.waiting():
            return WAITS
        if run.whole():
            return WHOLE
        return PRINTS if run.lack() is None else BROKEN

    def job_at(self, job):
        """The name of the printer that the job is at, or None."""
        return self.run_of(job).at()

    def job_of(self, job):
        """The job of this name."""
        return self.run_of(job).job

    def lack(self, job):
        """The copy and the sheet, from 1 on, that a broken job lacks first, else None."""
        return self.run_of(job).lack()

    def sheets_out(self, job):
        """How many of the job's sheets lie in heaps."""
        return self.run_of(job).out()

    def ahead(self, job):
        """What was noted to the job while it waited: (name, cost, why) of each that was taken."""
        return self.line.ahead(job)

    def able(self, printer):
        """The names of the jobs that could be taken at the printer now, as they were laid in."""
        machine = self.printer_of(printer)
        return [name for name in self.line.waiting() if self.is_able(name, machine)]

    def forecast(self, names):
        """The order in which these jobs, which wait, would be taken."""
        return self.line.forecast(names)

    def never(self):
        """The jobs that wait for ever, as they were laid in, each with a chain that shows it."""
        waits = dict([(name, self.awaited(name)) for name in self.line.waiting()])
        gone = [name for name, run in self.runs.items() if run.lack() is not None]
        return doomed(waits, gone)

    def book(self):
        """The rows of all that was done."""
        return self.records.told()

    def heap(self, printer):
        """The tags that came out of the printer."""
        self.printer_of(printer)
        return list(self.piles[printer])

    def tray_rows(self, printer):
        """The printer's trays in their order: (kind, room, sheets left)."""
        machine = self.printer_of(printer)
        return [(kind, room, machine.paper_left(kind)) for kind, room in machine.papers().items()]

    def printer_of(self, printer):
        """The printer of this name."""
        if printer not in self.printers:
            raise Unknown(printer)
        return self.printers[printer]

    def run_of(self, job):
        """The run of the job of this name."""
        if job not in self.runs:
            raise Unknown(job)
        return self.runs[job]

    def run_at(self, printer):
        """The run that is at the printer, or None."""
        for run in self.runs.values():
            if run.at() == printer:
                return run
        return None

    def must_be_free(self, printer, newcomer):
        """Refuses a printer at which a job is, but for the newcomer itself."""
        run = self.run_at(printer)
        if run is not None and run.job.name != newcomer:
            raise Busy(run.job.name)

    def is_whole(self, name):
        """Whether there is a job of this name, and it is whole."""
        return name in self.runs and self.runs[name].whole()

    def awaited(self, name):
        """The names after which the job comes that are not whole."""
        return [other for other in self.runs[name].job.after if not self.is_whole(other)]

    def is_able(self, name, machine):
        """Whether the printer lacks nothing for the job, and the job waits for no other one."""
        return not lacks(self.runs[name].job, machine) and not self.awaited(name)

    def write_out(self, printer, tags):
        """Lays what came out on the printer's heap, and writes it."""
        for tag in tags:
            self.piles[printer].append(tag)
            self.records.write((OUT, printer, tag[0], tag[1]))

    def write_lost(self, printer, tags):
        """Writes what was lost."""
        for tag in tags:
            self.records.write((LOST, printer, tag[0], tag[1]))
