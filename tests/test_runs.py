"""A job's sheets by their numbers, and runs stepped to their end (points 18 and 19)."""

import unittest

from helping import HallTest, full_printer, picture

from spoolhall.errors import Over
from spoolhall.jobs import read_job
from spoolhall.runs import Run

MANY = 1000
HOLDS = {"one": 1, "both": 2, "up:2": 4, "up:3": 6, "up:16": 32}
OPTIONS = ("", " cover:thick", " cover:plain", " paper:thin", " paper:thin cover:thick", " colour:1-1", " colour:2-3",
           " cover:thick colour:1-2")


def lines():
    """Jobs of each layout, of few pages and of more than a sheet holds, of one and of several copies."""
    told = []
    for layout, holds in HOLDS.items():
        word = "" if layout == "one" else " " + layout
        for pages in sorted({3, holds, holds + 1, 2 * holds + 1}):
            for copies in (1, 2, 3):
                told.extend([f"a anna {pages} x{copies}{word}{option}" for option in OPTIONS
                             if pages >= 3 or "colour:2-3" not in option and "colour:1-2" not in option])
    return told


def sheets_in(job):
    """How many sheets a copy has."""
    holds = HOLDS[job.layout]
    return (job.pages + holds - 1) // holds


def wanted_use(job, number):
    """What feeding the number takes, by the document's words: the kind of paper, black and coloured ink."""
    if number == -1:
        return (job.paper, 0, 0)
    sheet = number % sheets_in(job)
    holds = HOLDS[job.layout]
    pages = range(sheet * holds + 1, min(job.pages, (sheet + 1) * holds) + 1)
    coloured = len([page for page in pages if job.colour and job.colour[0] <= page <= job.colour[1]])
    kind = job.cover if sheet == 0 and job.cover else job.paper
    return (kind, len(pages) - coloured, coloured)


class Stock:
    """What a printer is to have left behind each step."""

    def __init__(self):
        self.left = {"plain": MANY, "thick": MANY, "thin": MANY}
        self.inks = [MANY, MANY]

    def use(self, used):
        self.left[used[0]] -= 1
        self.inks[0] -= used[1]
        self.inks[1] -= used[2]


class Numbers(HallTest):
    def test_each_and_total(self):
        for line, each, total in (
            ("a anna 1", 1, 1), ("a anna 7", 7, 7), ("a anna 7 x3", 7, 21), ("a anna 7 x3 both", 4, 12),
            ("a anna 8 both", 4, 4), ("a anna 5 x2 up:2", 2, 4), ("a anna 6 x99 up:3", 1, 99),
            ("a anna 33 x2 up:16", 2, 4), ("a anna 999 x99", 999, 98901),
        ):
            run = Run(read_job(line))
            with self.subTest(line=line):
                self.assertEqual((run.each(), run.total()), (each, total))

    def test_the_job_is_kept(self):
        job = read_job("a anna 3 x2")
        self.assertIs(Run(job).job, job)

    def test_a_run_ahead_of_its_first_taking(self):
        run = Run(read_job("a anna 3 x2"))
        self.assertEqual((run.out(), run.at(), run.lack(), run.upcoming()), (0, None, None, None))
        self.assertIs(run.whole(), False)

    def test_taking_feeds_nothing(self):
        printer = full_printer("p1", 2)
        kept = picture(printer)
        run = Run(read_job("a anna 3 x2"))
        came = run.take(printer)
        self.assertEqual(came, [])
        self.assertIs(type(came), list)
        self.assertEqual(picture(printer), kept)
        self.assertEqual((run.out(), run.at(), run.lack(), run.upcoming()), (0, "p1", None, ("a", -1)))
        self.assertIs(run.whole(), False)


class ToTheEnd(HallTest):
    def walk(self, line, path):
        job = read_job(line)
        printer = full_printer("p1", path, many=MANY)
        run = Run(job)
        run.take(printer)
        total = sheets_in(job) * job.copies
        self.assertEqual((run.each(), run.total()), (sheets_in(job), total))
        row = [("a", -1)] + [("a", number) for number in range(total)]
        stock = Stock()
        came = []
        fed = 0
        while len(came) < len(row):
            self.assertEqual(run.upcoming(), row[fed] if fed < len(row) else None)
            self.assertEqual((run.at(), run.whole(), run.lack()), ("p1", False, None))
            told = run.step()
            self.assertIs(type(told), list)
            if fed < len(row):
                stock.use(wanted_use(job, row[fed][1]))
                fed += 1
                wanted = row[len(came):fed - path] if fed > path else []
            else:
                wanted = [row[len(came)]]
            self.assertEqual(told, wanted)
            came.extend(told)
            self.assertEqual(printer.within(), row[len(came):fed])
            self.assertEqual(run.out(), max(0, len(came) - 1))
            self.assertEqual({kind: printer.paper_left(kind) for kind in stock.left}, stock.left)
            self.assertEqual(printer.ink_left(), tuple(stock.inks))
        self.assertEqual((run.out(), run.at(), run.lack(), run.upcoming()), (total, None, None, None))
        self.assertIs(run.whole(), True)
        self.assertEqual((printer.within(), printer.stands()), ([], "ready"))
        self.refused(Over, {"job": "a"}, run.step)

    def test_jobs_of_each_layout_at_printers_of_each_path(self):
        for line in lines():
            for path in (1, 2, 3, 4):
                with self.subTest(line=line, path=path):
                    self.walk(line, path)

    def test_one_sheet_alone(self):
        for path in (1, 2, 3, 4):
            self.walk("a anna 1", path)
            self.walk("a anna 1 x2 cover:thick colour:1-1", path)

    def test_written_out(self):
        printer = full_printer("p1", 2, many=MANY)
        run = Run(read_job("a anna 3 x2 both colour:2-3 cover:thick"))
        run.take(printer)
        rows = []
        while not run.whole():
            upcoming = run.upcoming()
            came = run.step()
            rows.append((upcoming, came, run.out(), printer.paper_left("plain"), printer.paper_left("thick"),
                         printer.ink_left()))
        self.assertEqual(rows, [
            (("a", -1), [], 0, 999, 1000, (1000, 1000)),
            (("a", 0), [], 0, 999, 999, (999, 999)),
            (("a", 1), [("a", -1)], 0, 998, 999, (999, 998)),
            (("a", 2), [("a", 0)], 1, 998, 998, (998, 997)),
            (("a", 3), [("a", 1)], 2, 997, 998, (998, 996)),
            (None, [("a", 2)], 3, 997, 998, (998, 996)),
            (None, [("a", 3)], 4, 997, 998, (998, 996)),
        ])

    def test_a_great_job(self):
        printer = full_printer("p1", 4)
        run = Run(read_job("a anna 999 x20 cover:thick"))
        run.take(printer)
        steps = 0
        while not run.whole():
            run.step()
            steps += 1
        self.assertEqual(steps, 999 * 20 + 1 + 4)
        self.assertEqual((printer.paper_left("plain"), printer.paper_left("thick")), (200000 - 19961, 200000 - 20))
        self.assertEqual(printer.ink_left(), (200000 - 19980, 200000))

    def test_asking_changes_nothing(self):
        printer = full_printer("p1", 2)
        run = Run(read_job("a anna 3 x2"))
        run.take(printer)
        run.step()
        run.step()
        kept = picture(printer)
        for again in range(3):
            self.assertEqual((run.each(), run.total(), run.out(), run.at(), run.whole(), run.lack(), run.upcoming()),
                             (3, 6, 0, "p1", False, None, ("a", 1)))
        self.assertEqual(picture(printer), kept)

    def test_the_job_stays_as_it_was(self):
        job = read_job("a anna 3 x2 both colour:2-3 cover:thick after:b")
        kept = dict(vars(job))
        run = Run(job)
        run.take(full_printer())
        while not run.whole():
            run.step()
        self.assertEqual(vars(job), kept)

    def test_two_runs_one_behind_the_other_at_one_printer(self):
        printer = full_printer("p1", 2)
        for name in ("a", "b"):
            run = Run(read_job(name + " anna 2"))
            run.take(printer)
            came = []
            while not run.whole():
                came.extend(run.step())
            self.assertEqual(came, [(name, -1), (name, 0), (name, 1)])

    def test_two_runs_side_by_side_at_two_printers(self):
        first = Run(read_job("a anna 2"))
        second = Run(read_job("b anna 1 x3"))
        first.take(full_printer("p1", 1))
        second.take(full_printer("p2", 1))
        came = []
        for again in range(3):
            came.extend([first.step(), second.step()])
        self.assertEqual(came, [[], [], [("a", -1)], [("b", -1)], [("a", 0)], [("b", 0)]])
        self.assertEqual((first.out(), second.out(), first.total(), second.total()), (1, 1, 2, 3))


if __name__ == "__main__":
    unittest.main()
