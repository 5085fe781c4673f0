"""The desk: a hall's deeds and questions by lines, and its answers."""

from spoolhall.desk_words import read_line
from spoolhall.errors import BadLine
from spoolhall.hall import BROKEN, PRINTS, Hall
from spoolhall.heaps import SLIP
from spoolhall.plans import change_plan, hand_plan
from spoolhall.reckoner import no_sums, sums

OK = "ok"
NONE = "-"
GOES = "+"


def add_printer(hall, values):
    """Adds a printer."""
    hall.add_printer(values[0], values[1], values[2], values[3], values[4], values[5])
    return OK


def add_asker(hall, values):
    """Adds an asker."""
    hall.add_asker(values[0], values[1], values[2])
    return OK


def lay_job(hall, values):
    """Lays in a job by its line."""
    try:
        hall.lay(values[0])
    except BadLine as refusal:
        # One word of the desk's own stands ahead of the job's line.
        raise BadLine(refusal.place + 1) from None
    return OK


def start(hall, values):
    """The name of the job that the printer has taken from the line."""
    taken = hall.start(values[0])
    return NONE if taken is None else taken


def step(hall, values):
    """How many steps were done."""
    return str(hall.step(values[0], values[1]))


def jam(hall, values):
    """How many tags were lost by a jam."""
    return str(len(hall.jam(values[0], values[1])[1]))


def leave(hall, values):
    """How many tags were lost by leaving."""
    return str(len(hall.leave(values[0])))


def mend(hall, values):
    """The state's word behind mending."""
    return hall.mend(values[0])


def come(hall, values):
    """The state's word behind coming back."""
    return hall.come(values[0])


def load(hall, values):
    """Lays in paper."""
    hall.load(values[0], values[1], values[2])
    return OK


def fill(hall, values):
    """Fills in ink."""
    hall.fill(values[0], values[1], values[2])
    return OK


def take(hall, values):
    """The word of a job that another printer takes over."""
    return hall.take(values[0], values[1])


def drop(hall, values):
    """The word of a job that is dropped."""
    return hall.drop(values[0])


def how(hall, values):
    """The job's word, and where it prints or what it lacks first."""
    job = values[0]
    word = hall.job_word(job)
    if word == PRINTS:
        return word + " " + hall.job_at(job)
    if word == BROKEN:
        return " ".join([word] + [str(number) for number in hall.lack(job)])
    return word


def ahead(hall, values):
    """Those that went ahead of the job, each with its cost and why."""
    rows = [" ".join([row[0], str(row[1]), row[2]]) for row in hall.ahead(values[0])]
    return ", ".join(rows) if rows else NONE


def never(hall, values):
    """The chains of the jobs that wait for ever."""
    chains = [" ".join(chain) for chain in hall.never().values()]
    return "; ".join(chains) if chains else NONE


def heap(hall, values):
    """The numbers in the printer's heap, a slip as its job's name."""
    marks = [tag[0] if tag[1] == SLIP else str(tag[1]) for tag in hall.heap(values[0])]
    return " ".join(marks) if marks else NONE


def printer_sums(hall, values):
    """The printer's eight sums."""
    hall.printer_of(values[0])
    told = sums(hall.book()).get(values[0], no_sums())
    return " ".join([str(number) for number in told])


def plan(hall, values):
    """How many changes, and the names in an order with so few."""
    told = change_plan(hall, values[0])
    return " ".join([str(told[1])] + told[0])


def hand(hall, values):
    """The names by the forecast, those ahead of which the hand goes marked."""
    told = hand_plan(hall, values[0])
    names = [GOES + name if place in told[1] else name for place, name in enumerate(told[0])]
    return " ".join(names) if names else NONE


ANSWERS = {
    "printer": add_printer,
    "asker": add_asker,
    "job": lay_job,
    "start": start,
    "step": step,
    "jam": jam,
    "leave": leave,
    "mend": mend,
    "come": come,
    "load": load,
    "fill": fill,
    "take": take,
    "drop": drop,
    "how": how,
    "ahead": ahead,
    "never": never,
    "heap": heap,
    "sums": printer_sums,
    "plan": plan,
    "hand": hand,
}


class Desk:
    """A hall that is spoken to by lines."""

    def __init__(self):
        self.hall = Hall()

    def say(self, line):
        """Does what the line says; tells the answer."""
        told = read_line(line)
        answer = ANSWERS[told[0]]
        return answer(self.hall, told[1])
