"""The refusals of the hall: one class for each, all of them under HallError alone."""


def own_copy(value):
    """The same value, in lists of its own: an error shares none with the one who made it."""
    if isinstance(value, list):
        return [own_copy(part) for part in value]
    if isinstance(value, tuple):
        return tuple([own_copy(part) for part in value])
    return value


class HallError(ValueError):
    """Any refusal."""


class BadLine(HallError):
    """A line is none; place is that of its first wrong word, from 0 on."""

    def __init__(self, place):
        HallError.__init__(self, place)
        self.place = place


class Unknown(HallError):
    """Nothing here has this name."""

    def __init__(self, name):
        HallError.__init__(self, name)
        self.name = name


class Twice(HallError):
    """The name was given already."""

    def __init__(self, name):
        HallError.__init__(self, name)
        self.name = name


class NotNow(HallError):
    """The state that was found does not let it."""

    def __init__(self, found):
        HallError.__init__(self, found)
        self.found = found


class TooMuch(HallError):
    """There is no room for so many of this name."""

    def __init__(self, name):
        HallError.__init__(self, name)
        self.name = name


class Dry(HallError):
    """There are too few of this name."""

    def __init__(self, name):
        HallError.__init__(self, name)
        self.name = name


class Over(HallError):
    """The job is whole or broken already."""

    def __init__(self, job):
        HallError.__init__(self, job)
        self.job = job


class Nowhere(HallError):
    """The job is at no printer, or no job is at the printer of this name."""

    def __init__(self, job):
        HallError.__init__(self, job)
        self.job = job


class Busy(HallError):
    """This job is at the printer."""

    def __init__(self, job):
        HallError.__init__(self, job)
        self.job = job


class NoHeap(HallError):
    """A heap is none; place is that of its first wrong tag, from 0 on."""

    def __init__(self, place):
        HallError.__init__(self, place)
        self.place = place


class NoPrinter(HallError):
    """No printer fits the job; lacks tells what each of them lacks."""

    def __init__(self, job, lacks):
        kept = own_copy(lacks)
        HallError.__init__(self, job, kept)
        self.job = job
        self.lacks = kept


class GoesRound(HallError):
    """There is no order: the names of ring wait for one another."""

    def __init__(self, ring):
        kept = own_copy(ring)
        HallError.__init__(self, kept)
        self.ring = kept


class NoWay(HallError):
    """The job at this place needs more of a tray than its room."""

    def __init__(self, place):
        HallError.__init__(self, place)
        self.place = place
