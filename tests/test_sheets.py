"""How many sheets a copy has, a sheet's paper and a sheet's ink (points 11, 12 and 13)."""

import copy
import unittest

from spoolhall.jobs import Job, read_job
from spoolhall.sheets import count_of, ink_of, paper_of, sheets_of

HOLDS = {"one": 1, "both": 2, "up:2": 4, "up:3": 6, "up:16": 32}


def job_of(pages, layout="one", paper="plain", cover=None, colour=None):
    return Job("letter", "anna", pages, 3, layout, paper, cover, colour, False, ())


class SheetsOf(unittest.TestCase):
    def test_the_sheets_of_one_copy(self):
        self.assertEqual(sheets_of(job_of(2)), [([1], [0]), ([2], [0])])
        self.assertEqual(sheets_of(job_of(3, "both")), [([1], [2]), ([3], [0])])
        self.assertEqual(sheets_of(job_of(5, "up:2")), [([1, 2], [3, 4]), ([5, 0], [0, 0])])
        self.assertEqual(sheets_of(job_of(4, "up:3")), [([1, 2, 3], [4, 0, 0])])
        self.assertEqual(sheets_of(job_of(1, "up:16")), [([1] + [0] * 15, [0] * 16)])

    def test_of_a_job_that_was_read(self):
        self.assertEqual(sheets_of(read_job("a b 3 x9 both cover:thick colour:1-2")), [([1], [2]), ([3], [0])])
        self.assertEqual(sheets_of(read_job("a b 1")), [([1], [0])])

    def test_they_are_the_askers_own(self):
        job = job_of(9, "up:2")
        first = sheets_of(job)
        kept = copy.deepcopy(first)
        first[0][0][0] = 55
        first[2][1].clear()
        first.pop()
        self.assertEqual(sheets_of(job), kept)

    def test_the_job_stays_as_it_was(self):
        job = job_of(9, "up:2", "thick", "thin", (2, 3))
        kept = dict(vars(job))
        sheets_of(job)
        count_of(job)
        paper_of(job, 0)
        self.assertEqual(vars(job), kept)


class CountOf(unittest.TestCase):
    def test_against_the_sheets(self):
        for layout, holds in HOLDS.items():
            for pages in sorted({1, 2, 3, max(1, holds - 1), holds, holds + 1, 2 * holds, 2 * holds + 1, 998, 999}):
                job = job_of(pages, layout)
                with self.subTest(layout=layout, pages=pages):
                    self.assertEqual(count_of(job), len(sheets_of(job)))
                    self.assertIs(type(count_of(job)), int)

    def test_written_out(self):
        for layout, pages, wanted in (
            ("one", 1, 1), ("one", 2, 2), ("one", 999, 999),
            ("both", 1, 1), ("both", 2, 1), ("both", 3, 2), ("both", 999, 500),
            ("up:2", 3, 1), ("up:2", 4, 1), ("up:2", 5, 2), ("up:2", 999, 250),
            ("up:3", 5, 1), ("up:3", 6, 1), ("up:3", 7, 2), ("up:3", 999, 167),
            ("up:16", 31, 1), ("up:16", 32, 1), ("up:16", 33, 2), ("up:16", 999, 32),
        ):
            with self.subTest(layout=layout, pages=pages):
                self.assertEqual(count_of(job_of(pages, layout)), wanted)

    def test_copies_are_not_counted(self):
        self.assertEqual(count_of(read_job("a b 4 x99")), 4)


class PaperOf(unittest.TestCase):
    def check(self, job, kinds):
        with self.subTest(paper=job.paper, cover=job.cover):
            self.assertEqual([paper_of(job, sheet) for sheet in range(len(kinds))], kinds)

    def test_without_a_cover(self):
        self.check(job_of(4), ["plain", "plain", "plain", "plain"])
        self.check(job_of(4, paper="thick"), ["thick", "thick", "thick", "thick"])

    def test_with_a_cover(self):
        self.check(job_of(4, cover="thick"), ["thick", "plain", "plain", "plain"])
        self.check(job_of(4, paper="thin", cover="plain"), ["plain", "thin", "thin", "thin"])

    def test_with_a_cover_of_the_jobs_own_kind(self):
        self.check(job_of(3, cover="plain"), ["plain", "plain", "plain"])
        self.check(job_of(3, paper="thick", cover="thick"), ["thick", "thick", "thick"])

    def test_of_the_last_of_many(self):
        self.assertEqual(paper_of(job_of(999, cover="thick"), 998), "plain")
        self.assertEqual(paper_of(job_of(999, cover="thick"), 1), "plain")


class InkOf(unittest.TestCase):
    def check(self, sheet, colour, wanted):
        kept = copy.deepcopy(sheet)
        with self.subTest(sheet=sheet, colour=colour):
            told = ink_of(sheet, colour)
            self.assertEqual(told, wanted)
            self.assertIs(type(told), tuple)
            self.assertEqual([type(part) for part in told], [int, int])
            self.assertEqual(sheet, kept)

    def test_without_colour(self):
        self.check(([1], [0]), None, (1, 0))
        self.check(([1], [2]), None, (2, 0))
        self.check(([1, 2, 3], [4, 0, 0]), None, (4, 0))
        self.check((list(range(1, 17)), list(range(17, 33))), None, (32, 0))

    def test_all_pages_coloured(self):
        self.check(([1], [0]), (1, 1), (0, 1))
        self.check(([1], [2]), (1, 2), (0, 2))
        self.check(([5, 6, 7], [8, 9, 0]), (1, 20), (0, 5))
        self.check(([5, 6, 7], [8, 9, 0]), (5, 9), (0, 5))

    def test_none_of_its_pages_coloured(self):
        self.check(([5, 6], [7, 8]), (1, 4), (4, 0))
        self.check(([5, 6], [7, 8]), (9, 9), (4, 0))
        self.check(([3], [0]), (1, 2), (1, 0))

    def test_some_of_its_pages_coloured(self):
        self.check(([5, 6], [7, 8]), (6, 7), (2, 2))
        self.check(([5, 6], [7, 8]), (8, 20), (3, 1))
        self.check(([5, 6], [7, 8]), (1, 5), (3, 1))

    def test_the_edges_of_the_coloured_pages(self):
        for page in range(1, 10):
            coloured = 3 <= page <= 6
            self.check(([page], [0]), (3, 6), (0, 1) if coloured else (1, 0))
            self.check(([0], [page]), (3, 6), (0, 1) if coloured else (1, 0))
        self.check(([1, 2, 3, 4], [5, 6, 7, 8]), (3, 6), (4, 4))

    def test_cells_without_a_page(self):
        self.check(([0], [0]), None, (0, 0))
        self.check(([0], [0]), (1, 1), (0, 0))
        self.check(([0, 0, 3], [0, 4, 0]), (4, 4), (1, 1))
        self.check(([0, 0, 0], [0, 0, 0]), (1, 999), (0, 0))

    def test_both_sides_are_counted(self):
        self.check(([0, 0], [3, 4]), None, (2, 0))
        self.check(([0, 0], [3, 4]), (4, 9), (1, 1))

    def test_all_sheets_of_a_job_use_ink_for_all_pages(self):
        for layout in HOLDS:
            job = job_of(75, layout, colour=(10, 40))
            inks = [ink_of(sheet, job.colour) for sheet in sheets_of(job)]
            self.assertEqual(sum(black for black, coloured in inks), 75 - 31)
            self.assertEqual(sum(coloured for black, coloured in inks), 31)


if __name__ == "__main__":
    unittest.main()
