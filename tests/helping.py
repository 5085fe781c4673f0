"""What several tests share: refusals looked at closely, printers with all they need, and halls."""

import itertools
import unittest

from spoolhall.hall import Hall
from spoolhall.printers import Printer

GREAT = 10 ** 59


class HallTest(unittest.TestCase):
    def refused(self, refusal, values, deed):
        """The deed is refused with just this class and just these values."""
        with self.assertRaises(refusal) as caught:
            deed()
        self.assertIs(type(caught.exception), refusal)
        self.assertEqual(vars(caught.exception), values)


class ShareTest(HallTest):
    """Looks at rows with shares by askers, costs by jobs, and takes: (asker, cost, askers ahead, askers behind)."""

    def look(self, rows):
        """Both bounds, for each two askers and from each take on."""
        most = max(rows.costs.values())
        for first, second in itertools.permutations(rows.shares, 2):
            for start in range(len(rows.takes)):
                self.look_side_by_side(rows, first, second, start, most)
                self.look_passed_over(rows, first, second, start, most)

    def look_side_by_side(self, rows, first, second, start, most):
        v, w = rows.shares[first], rows.shares[second]
        p = q = 0
        for asker, cost, ahead, behind in rows.takes[start:]:
            if not {first, second} <= ahead or not {first, second} <= behind:
                return
            p += cost if asker == first else 0
            q += cost if asker == second else 0
            self.assertLessEqual(abs(p * w - q * v), most * (v + w))

    def look_passed_over(self, rows, first, second, start, most):
        v, w = rows.shares[first], rows.shares[second]
        spent = 0
        for asker, cost, ahead, behind in rows.takes[start:]:
            if first not in ahead or asker == first:
                return
            spent += cost if asker == second else 0
            self.assertLessEqual(spent * v, most * (v + w))


def full_printer(name="p1", path=2, can=("both", "colour", "staple"), kinds=("plain", "thick", "thin"), many=200000):
    """A printer that has so much of each kind of paper and of both inks."""
    printer = Printer(name, list(can), path, dict.fromkeys(kinds, many), many, many)
    for kind in kinds:
        printer.load(kind, many)
    printer.fill(many, many)
    return printer


def picture(printer):
    """All that can be asked of a printer."""
    left = {kind: printer.paper_left(kind) for kind in printer.papers()}
    return (printer.name, printer.can, printer.path, printer.stands(), printer.papers(), list(printer.papers()), left,
            printer.ink_left(), printer.within())


# A hall's printers: what each can, its path, its trays and its rooms for ink.
PRINTERS = {
    "p1": (["both", "colour", "staple"], 2, {"plain": 900, "thick": 50}, 5000, 5000),
    "p2": (["both"], 1, {"thin": 40, "plain": 900}, 5000, 5000),
    "p3": (["staple", "colour"], 4, {"plain": 900, "thick": 50}, 5000, 5000),
}

# A hall's askers, with their ranks and shares.
ASKERS = {"anna": (5, 1), "bert": (5, 2), "carl": (9, 1), "dora": (0, 10)}


def empty_hall():
    """A hall with printers that hold nothing, and askers."""
    hall = Hall()
    for name, parts in PRINTERS.items():
        hall.add_printer(name, *parts)
    for name, (rank, share) in ASKERS.items():
        hall.add_asker(name, rank, share)
    return hall


def hall_of(*lines):
    """A hall whose printers hold something of all, with the jobs of these lines laid in."""
    hall = empty_hall()
    for name, parts in PRINTERS.items():
        for kind in parts[2]:
            hall.load(name, kind, 40)
        hall.fill(name, 1000, 500)
    for line in lines:
        hall.lay(line)
    return hall


def hall_picture(hall):
    """All that can be asked of a hall, of its printers and of its line."""
    line = hall.line
    printers = {name: (picture(printer), hall.heap(name), hall.able(name)) for name, printer in hall.printers.items()}
    jobs = {
        name: (hall.job_word(name), hall.job_at(name), hall.lack(name), hall.ahead(name), run.out(), run.upcoming())
        for name, run in hall.runs.items()
    }
    line_told = (line.waiting(), dict(line.levels), [line.mark(rank) for rank in range(10)])
    return (printers, list(printers), jobs, list(jobs), line_told, hall.never(), hall.book())


class HallDeeds(HallTest):
    def refused_and_unchanged(self, hall, refusal, values, deed):
        """The deed is refused so, writes nothing and changes nothing."""
        kept = hall_picture(hall)
        self.refused(refusal, values, deed)
        self.assertEqual(hall_picture(hall), kept)

    def writes(self, hall, rows, deed):
        """The deed writes just these rows; tells what it told."""
        kept = hall.book()
        told = deed()
        self.assertEqual(hall.book(), kept + rows)
        return told
