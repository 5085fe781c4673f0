"""The line: askers with their ranks and shares, and the jobs that wait."""

from spoolhall.errors import Twice, Unknown
from spoolhall.levels import first_of, grown, lifted

UNABLE = "unable"
OWN = "own"
RANK = "rank"
SHARE = "share"


def as_keys(names):
    """A dict that has these names."""
    return dict([(name, True) for name in names])


class Line:
    """The askers, the ranks' marks, and the jobs with what was noted to them."""

    def __init__(self):
        self.ranks = {}
        self.shares = {}
        self.levels = {}
        self.marks = {}
        self.owners = {}
        self.costs = {}
        self.notes = {}
        self.queue = {}

    def add_asker(self, name, rank, share):
        """Adds an asker, whose level is 0."""
        if name in self.ranks:
            raise Twice(name)
        self.ranks[name] = rank
        self.shares[name] = share
        self.levels[name] = 0

    def lay(self, name, asker, cost):
        """Lays in a job, which waits then."""
        self.must_know(asker)
        if name in self.owners:
            raise Twice(name)
        if not self.has_waiting(asker):
            self.levels[asker] = lifted(self.levels[asker], self.mark(self.ranks[asker]))
        self.owners[name] = asker
        self.costs[name] = cost
        self.notes[name] = []
        self.queue[name] = True

    def waiting(self):
        """The names of the jobs that wait, as they were laid in."""
        return list(self.queue)

    def level(self, asker):
        """The asker's level."""
        self.must_know(asker)
        return self.levels[asker]

    def mark(self, rank):
        """The rank's mark."""
        return self.marks.get(rank, 0)

    def ahead(self, name):
        """What was noted to the job: (name, cost, why) of each that was taken while it waited."""
        if name not in self.notes:
            raise Unknown(name)
        return list(self.notes[name])

    def take(self, able):
        """Takes one of the able jobs, and notes it to all that still wait; None of no able ones."""
        self.must_wait(able)
        if not able:
            return None
        taken = self.chosen(able, self.levels)
        self.queue.pop(taken)
        self.charge(taken)
        self.note_taken(taken, able)
        return taken

    def pull(self, name):
        """Pulls a job out of the line."""
        self.must_wait([name])
        self.queue.pop(name)

    def forecast(self, able):
        """The order in which these jobs would be taken, if nothing else were done."""
        self.must_wait(able)
        levels = dict(self.levels)
        left = list(able)
        told = []
        while left:
            name = self.chosen(left, levels)
            asker = self.owners[name]
            levels[asker] = self.level_behind(name, levels[asker])
            left.remove(name)
            told.append(name)
        return told

    def must_know(self, asker):
        """Refuses an asker that was not added."""
        if asker not in self.ranks:
            raise Unknown(asker)

    def must_wait(self, names):
        """Refuses the first of the names that does not wait."""
        for name in names:
            if name not in self.queue:
                raise Unknown(name)

    def has_waiting(self, asker):
        """Whether a job of the asker waits."""
        return any([self.owners[name] == asker for name in self.queue])

    def chosen(self, able, levels):
        """Which of the able jobs goes, by these levels."""
        firsts = self.firsts_of(able)
        askers = list(firsts)
        rows = [(self.ranks[asker], levels[asker], asker) for asker in askers]
        return firsts[askers[first_of(rows)]]

    def firsts_of(self, able):
        """Of each asker the able job that was laid in first."""
        told = as_keys(able)
        firsts = {}
        for name in self.queue:
            if name in told:
                firsts.setdefault(self.owners[name], name)
        return firsts

    def level_behind(self, name, level):
        """What the level of the job's asker becomes when the job is taken."""
        return grown(level, self.costs[name], self.shares[self.owners[name]])

    def charge(self, name):
        """Lifts the rank's mark to the asker's level, then lets the level grow."""
        asker = self.owners[name]
        rank = self.ranks[asker]
        self.marks[rank] = lifted(self.mark(rank), self.levels[asker])
        self.levels[asker] = self.level_behind(name, self.levels[asker])

    def note_taken(self, taken, able):
        """Notes to each job that still waits why the taken one went ahead."""
        told = as_keys(able)
        for name in self.queue:
            why = self.why_ahead(taken, name) if name in told else UNABLE
            self.notes[name].append((taken, self.costs[taken], why))

    def why_ahead(self, taken, name):
        """Why the taken job went ahead of an able one."""
        first = self.owners[taken]
        second = self.owners[name]
        if first == second:
            return OWN
        return RANK if self.ranks[first] > self.ranks[second] else SHARE
