"""Long rows of a hall's deeds, refused ones too, and what holds behind each of them (points 3, 24, 32 and 37)."""

import random
import unittest

from helping import HallTest, ShareTest, hall_picture
from test_waits import wanted_doomed

from spoolhall.errors import HallError
from spoolhall.hall import Hall
from spoolhall.heaps import first_lack, gathered
from spoolhall.layouts import layout_of
from spoolhall.plans import copies_whole
from spoolhall.reckoner import first_wrong, heaps_of, held_of, sums
from spoolhall.sheets import sheets_of

PRINTERS = {
    "p1": (["both", "colour", "staple"], 1, {"plain": 90, "thick": 40}, 200, 90),
    "p2": (["both"], 2, {"plain": 90, "thin": 40}, 200, 90),
    "p3": (["colour", "both"], 3, {"thick": 40, "plain": 90}, 200, 90),
    "p4": ([], 4, {"plain": 90}, 200, 90),
}
ASKERS = {"anna": (5, 1), "bert": (5, 4), "carl": (8, 2), "dora": (1, 10)}
KINDS = ("plain", "thick", "thin")
OPTIONS = ("x2", "x3", "both", "up:2", "colour:1-1", "paper:thick", "cover:thick", "cover:thin", "staple", "x0")


def needs_fit(job, printer):
    """Whether the printer has all that the job needs, by the document's words."""
    can, path, papers = PRINTERS[printer][:3]
    wants = {"both": job.layout != "one", "colour": job.colour is not None, "staple": job.staple}
    kinds = {job.paper} | ({job.cover} - {None})
    return kinds <= set(papers) and all(word in can for word, wanted in wants.items() if wanted)


def sheets_by_hand(heap, name):
    """The numbers of the job's sheets behind each of its slips, and whether each sheet has its slip."""
    found = []
    owner = None
    for tag in heap:
        if tag[1] == -1:
            owner = tag[0]
            found.append((owner, []))
        else:
            if owner != tag[0]:
                return None
            found[-1][1].append(tag[1])
    return [numbers for slip, numbers in found if slip == name and numbers]


class Day:
    """A hall, and what was noted of it while its deeds were done."""

    def __init__(self, seed):
        self.chance = random.Random(seed)
        self.hall = Hall()
        for name, parts in PRINTERS.items():
            self.hall.add_printer(name, *parts)
        for name, (rank, share) in ASKERS.items():
            self.hall.add_asker(name, rank, share)
        self.jobs = []
        self.begun = {}
        self.notes = {}
        self.given = {name: [{kind: 0 for kind in parts[2]}, 0, 0] for name, parts in PRINTERS.items()}
        self.refused = 0
        for name, parts in PRINTERS.items():
            for kind in parts[2]:
                self.load_at(name, kind, self.chance.randrange(25))
            self.fill_at(name, self.chance.randrange(50), self.chance.randrange(9))

    def waiting(self):
        return [name for name in self.jobs if self.hall.job_word(name) == "waits"]

    def whole(self, name):
        return name in self.jobs and self.hall.job_word(name) == "whole"

    def able(self, printer):
        """The jobs that are able, by the document's words."""
        return [name for name in self.waiting() if needs_fit(self.hall.job_of(name), printer)
                and all(self.whole(other) for other in self.hall.job_of(name).after)]

    def a_printer(self):
        return self.chance.choice(list(PRINTERS) * 4 + ["p9"])

    def a_busy_printer(self):
        """One at which a job is, if there is one."""
        return self.chance.choice([self.hall.job_at(name) for name in self.jobs if self.hall.job_at(name)] or ["p1"])

    def a_job(self):
        return self.chance.choice(self.jobs * 4 + ["zz"])

    def lay(self):
        chance = self.chance
        name = chance.choice(["j" + str(len(self.jobs))] * 5 + ["j0"])
        asker = chance.choice(list(ASKERS) * 4 + ["zoe"])
        words = [name, asker, str(chance.randrange(1, 10))]
        words += chance.sample(OPTIONS, chance.choice([0, 0, 1, 1, 2]))
        words += ["after:j" + str(number) for number in chance.sample(range(len(self.jobs) + 2),
                                                                        chance.choice([0, 0, 0, 1, 1]))]
        self.jobs.append(self.hall.lay(" ".join(words)))
        self.notes[name] = []

    def start(self):
        printer = self.a_printer()
        able = self.able(printer) if printer in PRINTERS else []
        taken = self.hall.start(printer)
        if taken is None:
            return
        self.begun[taken] = True
        for name in self.waiting():
            job = self.hall.job_of(taken)
            self.notes[name].append((taken, job.pages * job.copies, self.why(taken, name, able)))

    def why(self, taken, name, able):
        first, second = (self.hall.job_of(job).asker for job in (taken, name))
        if name not in able:
            return "unable"
        if first == second:
            return "own"
        return "rank" if ASKERS[first][0] > ASKERS[second][0] else "share"

    def load(self):
        self.load_at(self.a_printer(), self.chance.choice(KINDS), self.chance.randrange(25))

    def load_at(self, printer, kind, many):
        self.hall.load(printer, kind, many)
        self.given[printer][0][kind] += many

    def fill(self):
        self.fill_at(self.a_printer(), self.chance.randrange(60), self.chance.randrange(30))

    def fill_at(self, printer, black, coloured):
        self.hall.fill(printer, black, coloured)
        self.given[printer][1] += black
        self.given[printer][2] += coloured

    def take_over(self):
        """Lets a printer take a job that prints, if there is one."""
        printing = [name for name in self.jobs if self.hall.job_word(name) == "prints"]
        if printing:
            self.hall.take(self.chance.choice(printing), self.a_printer())

    def back(self):
        """Brings all printers back to work."""
        for name in PRINTERS:
            for deed, state in ((self.hall.come, "off"), (self.hall.mend, "jammed")):
                if self.hall.printer_of(name).stands() == state:
                    deed(name)

    def one_deed(self):
        """Does something, or is refused it."""
        hall, chance = self.hall, self.chance
        printer, busy, job = self.a_printer(), self.a_busy_printer(), self.a_job()
        deeds = [self.lay] * 5 + [self.start] * 8 + [self.load] * 2 + [self.fill] * 2
        deeds += [lambda: hall.step(busy, chance.randrange(1, 6))] * 14
        deeds += [lambda: hall.step(printer, chance.choice([1, 999]))] * 2
        deeds += [lambda: hall.jam(busy, chance.randrange(4))] * 2
        deeds += [lambda: hall.mend(printer), lambda: hall.come(printer)] + [self.back] * 4
        deeds += [lambda: hall.leave(busy), lambda: hall.take(job, printer), self.take_over, self.take_over]
        deeds += [lambda: chance.randrange(4) or hall.drop(job)]
        kept = hall_picture(hall)
        try:
            chance.choice(deeds)()
        except HallError:
            self.refused += 1
            return kept == hall_picture(hall)
        return True


class LongRows(HallTest):
    def look_at_jobs(self, day):
        hall = day.hall
        heaps = {name: hall.heap(name) for name in PRINTERS}
        for name in day.jobs:
            job = hall.job_of(name)
            each = len(sheets_of(job))
            total = each * job.copies
            parts = [part for heap in heaps.values() for part in sheets_by_hand(heap, name)]
            numbers = [number for part in sorted(parts) for number in part]
            # Put together out of all heaps: its sheets in their order, each once, up to the first that lacks.
            self.assertEqual(numbers, list(range(len(numbers))))
            self.assertEqual([number for part in gathered(heaps, name) for number in part[1]], numbers)
            lack = first_lack(heaps, name, total)
            self.assertEqual(lack, len(numbers) if len(numbers) < total else None)
            self.look_at_copies(job, numbers, each)
            self.assertEqual(copies_whole(hall, name), len(numbers) // each)
            self.look_at_word(day, name, numbers, total, each)

    def look_at_copies(self, job, numbers, each):
        """The pages of each copy that lies there are 1 to the last."""
        sheets = sheets_of(job)
        for copy in range(len(numbers) // each):
            lying = [sheets[number % each] for number in numbers if number // each == copy]
            cells = layout_of(job.layout).reading(lying)
            self.assertEqual(cells[:job.pages], list(range(1, job.pages + 1)))
            self.assertEqual(set(cells[job.pages:]) - {0}, set())

    def look_at_word(self, day, name, numbers, total, each):
        hall = day.hall
        word = hall.job_word(name)
        self.assertEqual(word == "whole", len(numbers) == total)
        if word == "broken":
            self.assertEqual(hall.lack(name), (len(numbers) // each + 1, len(numbers) % each + 1))
        else:
            self.assertIsNone(hall.lack(name))
        self.assertEqual(hall.job_at(name) is not None, word == "prints")
        if name not in day.begun:
            self.assertIn(word, ("waits", "broken"))
            self.assertEqual(numbers, [])
        else:
            self.assertNotEqual(word, "waits")

    def look_at_book(self, day):
        hall = day.hall
        book = hall.book()
        self.assertIsNone(first_wrong(book, {name: parts[1] for name, parts in PRINTERS.items()}))
        told = heaps_of(book)
        for name in PRINTERS:
            self.assertEqual(hall.heap(name), told.get(name, []))
            rows = [row for row in book if row[1] == name]
            fed = [row for row in rows if row[0] == "feed"]
            self.look_at_stock(day, name, book, fed)
            # Each sheet that was fed lies in its heap, is within, or is told as lost: one behind the other.
            ended = [row[2:4] for row in rows if row[0] in ("out", "lost")]
            within = hall.printer_of(name).within()
            self.assertEqual([row[3:5] for row in fed], ended + within)
            self.assertLessEqual(len(within), PRINTERS[name][1])

    def look_at_stock(self, day, name, book, fed):
        """What the printer holds is what was filled in less what was used, and so the book tells it."""
        printer = day.hall.printer_of(name)
        papers, black, coloured = day.given[name]
        left = {kind: many - len([row for row in fed if row[2] == kind]) for kind, many in papers.items()}
        inks = (black - sum(row[5] for row in fed), coloured - sum(row[6] for row in fed))
        self.assertEqual({kind: printer.paper_left(kind) for kind in papers}, left)
        self.assertEqual(printer.ink_left(), inks)
        held = held_of(book, name)
        self.assertEqual(held[1:], inks)
        self.assertEqual({kind: held[0].get(kind, 0) for kind in papers}, left)
        told = sums(book).get(name, [0] * 8)
        self.assertEqual([told[0], told[1], told[4], told[6]], [sum(papers.values()), len(fed), black, coloured])

    def look_at_waiting(self, day):
        hall = day.hall
        for name in day.jobs:
            self.assertEqual(hall.ahead(name), day.notes[name])
        for printer in PRINTERS:
            self.assertEqual(hall.able(printer), day.able(printer))
        waiting = day.waiting()
        waits = {name: [other for other in hall.job_of(name).after if not day.whole(other)] for name in waiting}
        broken = [name for name in day.jobs if hall.job_word(name) == "broken"]
        self.assertEqual(list(hall.never()), wanted_doomed(waits, broken))

    def test_what_holds_behind_each_deed(self):
        words = set()
        refused = 0
        for seed in range(24):
            day = Day(seed)
            with self.subTest(seed=seed):
                for many in range(220):
                    self.assertTrue(day.one_deed())
                    self.look_at_jobs(day)
                    self.look_at_book(day)
                    self.look_at_waiting(day)
            words |= {day.hall.job_word(name) for name in day.begun}
            refused += day.refused
        # The rows are worth something only if jobs came to their ends, and deeds were refused.
        self.assertEqual(words, {"prints", "whole", "broken"})
        self.assertGreater(refused, 500)


class Takes:
    """The takes of a hall in which each printer fits each job."""

    def __init__(self, shares):
        self.shares = shares
        self.hall = Hall()
        for name in ("p1", "p2"):
            self.hall.add_printer(name, [], 2, {"plain": 10 ** 9}, 10 ** 9, 10 ** 9)
            self.hall.load(name, "plain", 10 ** 9)
            self.hall.fill(name, 10 ** 9, 0)
        for name, share in shares.items():
            self.hall.add_asker(name, 3, share)
        self.costs = {}
        self.takes = []

    def lay(self, asker, pages):
        name = "j" + str(len(self.costs))
        self.hall.lay(name + " " + asker + " " + str(pages))
        self.costs[name] = pages

    def asking(self):
        return {self.hall.job_of(name).asker for name in self.hall.able("p1")}

    def free(self, printer):
        """Ends whatever is at the printer."""
        for name in self.costs:
            if self.hall.job_at(name) == printer:
                self.hall.drop(name)

    def take(self, printer):
        self.free(printer)
        ahead = self.asking()
        name = self.hall.start(printer)
        if name is not None:
            self.takes.append((self.hall.job_of(name).asker, self.costs[name], ahead, self.asking()))
            self.hall.step(printer, 3)


class SharesOfAHall(ShareTest):
    def test_askers_are_passed_over_within_the_bounds(self):
        for seed in range(12):
            chance = random.Random(seed)
            shares = {asker: chance.randrange(1, 11) for asker in ("anna", "bert", "carl")[:2 + seed % 2]}
            most = {asker: chance.choice([1, 4, 20]) for asker in shares}
            rows = Takes(shares)
            for many in range(90):
                for asker in shares:
                    if chance.randrange(2):
                        rows.lay(asker, chance.randrange(1, most[asker] + 1))
                rows.take(chance.choice(["p1", "p2"]))
                waiting = rows.hall.able("p1")
                if waiting and chance.randrange(20) == 0:
                    rows.hall.drop(chance.choice(waiting))
            with self.subTest(seed=seed):
                self.look(rows)
                self.assertEqual({take[0] for take in rows.takes}, set(shares))


if __name__ == "__main__":
    unittest.main()
