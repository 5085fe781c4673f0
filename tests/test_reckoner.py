"""What a book tells: sums, the first row that can not be, heaps, what is held (points 31 and 32)."""

import copy
import random
import unittest

from helping import GREAT, HallTest

from spoolhall.printers import Printer
from spoolhall.reckoner import first_wrong, heaps_of, held_of, sums

PATHS = {"p1": 1, "p2": 3}

# A book that can be, with rows of all five sorts at two printers.
BOOK = [
    ("load", "p2", "plain", 9),
    ("ink", "p1", 20, 5),
    ("load", "p1", "plain", 4),
    ("load", "p1", "thick", 2),
    ("feed", "p1", "plain", "a", -1, 0, 0),
    ("ink", "p2", 7, 0),
    ("feed", "p1", "thick", "a", 0, 3, 2),
    ("out", "p1", "a", -1),
    ("feed", "p2", "plain", "b", -1, 0, 0),
    ("load", "p1", "plain", 3),
    ("feed", "p1", "plain", "a", 1, 1, 0),
    ("out", "p1", "a", 0),
    ("ink", "p1", 0, 4),
    ("lost", "p1", "a", 1),
    ("feed", "p2", "plain", "b", 0, 6, 0),
    ("lost", "p2", "b", -1),
    ("lost", "p2", "b", 0),
]


def feed(printer, name, number, kind="plain", black=0, coloured=0):
    return ("feed", printer, kind, name, number, black, coloured)


def filled(printer, kind="plain", many=9, black=9, coloured=9):
    """The rows by which a printer has something to feed."""
    return [("load", printer, kind, many), ("ink", printer, black, coloured)]


class Sums(HallTest):
    def test_no_rows(self):
        self.assertEqual(sums([]), {})

    def test_each_sort_by_itself(self):
        for row, wanted in (
            (("load", "p1", "plain", 5), [5, 0, 0, 0, 0, 0, 0, 0]),
            (("load", "p1", "plain", 0), [0, 0, 0, 0, 0, 0, 0, 0]),
            (("feed", "p1", "plain", "a", 7, 3, 2), [0, 1, 0, 0, 0, 3, 0, 2]),
            (("feed", "p1", "plain", "a", -1, 0, 0), [0, 1, 0, 0, 0, 0, 0, 0]),
            (("out", "p1", "a", 7), [0, 0, 1, 0, 0, 0, 0, 0]),
            (("lost", "p1", "a", 7), [0, 0, 0, 1, 0, 0, 0, 0]),
            (("ink", "p1", 6, 4), [0, 0, 0, 0, 6, 0, 4, 0]),
            (("ink", "p1", 0, 0), [0, 0, 0, 0, 0, 0, 0, 0]),
        ):
            self.assertEqual(sums([row]), {"p1": wanted})
            self.assertEqual(sums([row, row]), {"p1": [2 * number for number in wanted]})

    def test_all_sorts_of_several_printers(self):
        told = sums(BOOK)
        self.assertEqual(told, {"p2": [9, 2, 0, 2, 7, 6, 0, 0], "p1": [9, 3, 2, 1, 20, 4, 9, 2]})
        self.assertEqual(list(told), ["p2", "p1"])
        self.assertTrue(all(type(row) is list for row in told.values()))

    def test_printers_in_the_order_in_which_they_first_stand_there(self):
        rows = [
            ("out", "z", "a", 0),
            ("lost", "b", "a", 0),
            ("feed", "y", "plain", "a", 0, 0, 0),
            ("ink", "b", 1, 1),
            ("ink", "a", 0, 0),
            ("load", "c", "plain", 0),
            ("load", "z", "plain", 0),
        ]
        self.assertEqual(list(sums(rows)), ["z", "b", "y", "a", "c"])
        self.assertEqual(list(sums(rows[::-1])), ["z", "c", "a", "b", "y"])

    def test_great_numbers(self):
        rows = [("load", "p1", "plain", GREAT), ("ink", "p1", GREAT, GREAT + 1), feed("p1", "a", 0, "plain", 2, GREAT)]
        self.assertEqual(sums(rows + rows), {"p1": [2 * GREAT, 2, 0, 0, 2 * GREAT, 4, 2 * GREAT + 2, 2 * GREAT]})

    def test_what_is_told_is_the_askers_own(self):
        rows = list(BOOK)
        told = sums(rows)
        kept = copy.deepcopy(told)
        told["p1"][0] = 77
        told.pop("p2")
        self.assertEqual(sums(rows), kept)
        self.assertEqual(rows, BOOK)
        first = sums([])
        first["p9"] = []
        self.assertEqual(sums([]), {})


class CanBe(HallTest):
    def wrong(self, rows, place, paths=PATHS):
        kept = (list(rows), dict(paths))
        self.assertEqual(first_wrong(rows, paths), place)
        self.assertEqual((rows, paths), kept)

    def test_no_rows(self):
        self.wrong([], None)
        self.wrong([], None, {})

    def test_a_book_that_can_be(self):
        self.wrong(list(BOOK), None)
        for many in range(len(BOOK)):
            self.wrong(BOOK[:many], None)

    def test_a_printer_without_a_path(self):
        for row in (
            ("load", "p9", "plain", 5),
            ("load", "p9", "plain", 0),
            ("ink", "p9", 0, 0),
            ("feed", "p9", "plain", "a", 0, 0, 0),
            ("out", "p9", "a", 0),
            ("lost", "p9", "a", 0),
        ):
            self.wrong([row], 0)
            self.wrong([row], 0, {})
            self.wrong(BOOK + [row], len(BOOK))
            self.wrong(BOOK[:6] + [row] + BOOK[6:], 6)
        self.wrong(list(BOOK), 0, {"p1": 4})
        self.wrong(list(BOOK), 1, {"p2": 4})

    def test_a_kind_that_was_not_loaded(self):
        self.wrong([feed("p1", "a", -1)], 0)
        self.wrong([("load", "p1", "thick", 5), feed("p1", "a", -1)], 1)
        self.wrong([("load", "p1", "thick", 5), feed("p1", "a", -1, "thick")], None)
        self.wrong([("load", "p1", "plain", 0), feed("p1", "a", -1)], 1)
        self.wrong([("load", "p2", "plain", 5), feed("p1", "a", -1)], 1)
        self.wrong([feed("p1", "a", -1), ("load", "p1", "plain", 5)], 0)

    def test_a_kind_that_is_used_up(self):
        rows = [("load", "p2", "plain", 2), feed("p2", "a", -1), feed("p2", "a", 0)]
        self.wrong(rows, None)
        self.wrong(rows + [feed("p2", "a", 1)], 3)
        self.wrong(rows + [("load", "p2", "thick", 5), feed("p2", "a", 1)], 4)
        self.wrong(rows + [("load", "p2", "plain", 1), feed("p2", "a", 1)], None)
        # What went out or is lost is used up, too.
        self.wrong(rows + [("out", "p2", "a", -1), feed("p2", "a", 1)], 4)
        self.wrong(rows + [("lost", "p2", "a", -1), feed("p2", "a", -1)], 4)

    def test_too_little_black(self):
        rows = [("load", "p2", "plain", 9), ("ink", "p2", 5, 9)]
        self.wrong(rows + [feed("p2", "a", 0, black=5)], None)
        self.wrong(rows + [feed("p2", "a", 0, black=6)], 2)
        self.wrong(rows + [feed("p2", "a", 0, black=3), feed("p2", "a", 1, black=2)], None)
        self.wrong(rows + [feed("p2", "a", 0, black=3), feed("p2", "a", 1, black=3)], 3)
        self.wrong(rows + [feed("p2", "a", 0, black=5), feed("p2", "a", 1)], None)
        self.wrong(rows + [feed("p2", "a", 0, black=5), ("ink", "p2", 1, 0), feed("p2", "a", 1, black=1)], None)
        self.wrong([("load", "p1", "plain", 9), ("ink", "p2", 5, 9), feed("p1", "a", 0, black=1)], 2)

    def test_too_little_coloured_ink(self):
        rows = [("load", "p2", "plain", 9), ("ink", "p2", 9, 5)]
        self.wrong(rows + [feed("p2", "a", 0, coloured=5)], None)
        self.wrong(rows + [feed("p2", "a", 0, coloured=6)], 2)
        self.wrong(rows + [feed("p2", "a", 0, coloured=3), feed("p2", "a", 1, coloured=2)], None)
        self.wrong(rows + [feed("p2", "a", 0, coloured=3), feed("p2", "a", 1, coloured=3)], 3)
        self.wrong(rows + [feed("p2", "a", 0, coloured=5), ("ink", "p2", 0, 1), feed("p2", "a", 1, coloured=1)], None)
        self.wrong([("load", "p1", "plain", 9), ("ink", "p2", 5, 9), feed("p1", "a", 0, coloured=1)], 2)

    def test_more_within_than_the_path(self):
        for path in (1, 2, 3, 4):
            rows = filled("p1") + [feed("p1", "a", number) for number in range(path + 1)]
            self.wrong(rows, None, {"p1": path})
            self.wrong(rows + [feed("p1", "a", 9)], len(rows), {"p1": path})
            self.wrong(rows + [feed("p1", "a", 9), ("out", "p1", "a", 0)], len(rows), {"p1": path})
            self.wrong(rows + [("out", "p1", "a", 0), feed("p1", "a", 9)], None, {"p1": path})
            self.wrong(rows + [("lost", "p1", "a", 0), feed("p1", "a", 9)], None, {"p1": path})

    def test_each_printer_has_its_own_within(self):
        rows = filled("p1") + filled("p2") + [feed("p1", "a", 0), feed("p1", "a", 1)]
        self.wrong(rows + [feed("p2", "a", 2), feed("p2", "a", 3)], None)
        self.wrong(rows + [feed("p2", "a", 2), feed("p1", "a", 3)], 7)

    def test_what_is_not_the_oldest_within(self):
        rows = filled("p2") + [feed("p2", "a", -1), feed("p2", "a", 0), feed("p2", "b", 1)]
        for sort in ("out", "lost"):
            self.wrong(rows + [(sort, "p2", "a", -1)], None)
            for name, number in (("a", 0), ("b", 1), ("b", -1), ("a", 1), ("a", 2), ("c", -1)):
                self.wrong(rows + [(sort, "p2", name, number)], 5)
            self.wrong(rows + [("out", "p2", "a", -1), (sort, "p2", "a", 0)], None)
            self.wrong(rows + [("lost", "p2", "a", -1), (sort, "p2", "a", 0)], None)
            self.wrong(rows + [("out", "p2", "a", -1), (sort, "p2", "a", -1)], 6)
            self.wrong(rows + [("lost", "p2", "a", -1), (sort, "p2", "a", -1)], 6)
            self.wrong(rows + [("lost", "p2", "a", -1), (sort, "p2", "b", 1)], 6)

    def test_nothing_within(self):
        for sort in ("out", "lost"):
            self.wrong([(sort, "p1", "a", 0)], 0)
            self.wrong(filled("p1") + [(sort, "p1", "a", 0)], 2)
            self.wrong(filled("p1") + [feed("p1", "a", 0), ("out", "p1", "a", 0), (sort, "p1", "a", 0)], 4)

    def test_what_was_fed_elsewhere(self):
        rows = filled("p1") + filled("p2") + [feed("p1", "a", 0)]
        for sort in ("out", "lost"):
            self.wrong(rows + [(sort, "p2", "a", 0)], 5)
            self.wrong(rows + [(sort, "p1", "a", 0)], None)
            self.wrong(rows + [feed("p2", "a", 1), (sort, "p2", "a", 0)], 6)

    def test_the_first_of_several(self):
        rows = BOOK[:8] + [("out", "p1", "a", 5), ("load", "p9", "plain", 1)] + BOOK[8:]
        self.wrong(rows, 8)
        self.wrong(rows[:8] + rows[9:], 8)
        self.wrong([("lost", "p1", "a", 5)] + rows, 0)

    def test_each_row_left_out_or_changed(self):
        # Without its load, ink or feed the book can not be from where it was needed on.
        for left_out, place in ((0, 7), (1, 5), (3, 5), (4, 6), (6, 10), (8, 14)):
            self.wrong(BOOK[:left_out] + BOOK[left_out + 1:], place)


class Heaps(HallTest):
    def test_no_rows(self):
        self.assertEqual(heaps_of([]), {})

    def test_what_went_out_in_its_order(self):
        told = heaps_of(BOOK)
        self.assertEqual(told, {"p2": [], "p1": [("a", -1), ("a", 0)]})
        self.assertEqual(list(told), ["p2", "p1"])

    def test_printers_in_the_order_in_which_they_first_stand_there(self):
        rows = [("lost", "z", "a", 0), ("out", "b", "a", 1), ("ink", "a", 0, 0), ("out", "z", "b", 2),
                ("out", "b", "a", 0), ("feed", "y", "plain", "a", 0, 0, 0), ("load", "x", "plain", 0)]
        told = heaps_of(rows)
        self.assertEqual(told, {"z": [("b", 2)], "b": [("a", 1), ("a", 0)], "a": [], "y": [], "x": []})
        self.assertEqual(list(told), ["z", "b", "a", "y", "x"])

    def test_what_is_told_is_the_askers_own(self):
        rows = list(BOOK)
        told = heaps_of(rows)
        told["p1"].clear()
        told["p2"].append(("x", 1))
        told["p9"] = []
        self.assertEqual(heaps_of(rows), {"p2": [], "p1": [("a", -1), ("a", 0)]})
        self.assertEqual(rows, BOOK)


class Held(HallTest):
    def test_a_printer_without_rows(self):
        self.assertEqual(held_of([], "p1"), ({}, 0, 0))
        self.assertEqual(held_of(BOOK, "p9"), ({}, 0, 0))

    def test_what_is_left(self):
        self.assertEqual(held_of(BOOK, "p1"), ({"plain": 5, "thick": 1}, 16, 7))
        self.assertEqual(held_of(BOOK, "p2"), ({"plain": 7}, 1, 0))
        self.assertIs(type(held_of(BOOK, "p1")), tuple)

    def test_row_by_row(self):
        told = [held_of(BOOK[:many], "p1") for many in range(8)]
        self.assertEqual(told, [
            ({}, 0, 0), ({}, 0, 0), ({}, 20, 5), ({"plain": 4}, 20, 5), ({"plain": 4, "thick": 2}, 20, 5),
            ({"plain": 3, "thick": 2}, 20, 5), ({"plain": 3, "thick": 2}, 20, 5), ({"plain": 3, "thick": 1}, 17, 3),
        ])

    def test_a_load_of_no_sheets(self):
        self.assertEqual(held_of([("load", "p1", "plain", 0)], "p1"), ({"plain": 0}, 0, 0))
        rows = [("load", "p1", "plain", 2), ("load", "p1", "plain", 0), ("load", "p1", "thick", 0)]
        self.assertEqual(held_of(rows, "p1"), ({"plain": 2, "thick": 0}, 0, 0))

    def test_all_used_up(self):
        rows = [("load", "p1", "plain", 1), ("ink", "p1", 3, 4), feed("p1", "a", 0, "plain", 3, 4)]
        self.assertEqual(held_of(rows, "p1"), ({"plain": 0}, 0, 0))

    def test_out_and_lost_give_nothing_back(self):
        rows = filled("p1") + [feed("p1", "a", 0, "plain", 1, 2), feed("p1", "a", 1)]
        wanted = ({"plain": 7}, 8, 7)
        self.assertEqual(held_of(rows, "p1"), wanted)
        self.assertEqual(held_of(rows + [("out", "p1", "a", 0), ("lost", "p1", "a", 1)], "p1"), wanted)

    def test_what_is_told_is_the_askers_own(self):
        rows = list(BOOK)
        held_of(rows, "p1")[0].clear()
        self.assertEqual(held_of(rows, "p1"), ({"plain": 5, "thick": 1}, 16, 7))
        self.assertEqual(rows, BOOK)


def some_deed(chance, printer, rows, count):
    """Does something at the printer and writes what it did."""
    name = printer.name
    kind = chance.choice(["plain", "thick"])
    deed = chance.choice(["load", "ink", "feed", "feed", "feed", "push", "jam"])
    if deed == "load":
        many = chance.randrange(4)
        printer.load(kind, many)
        rows.append(("load", name, kind, many))
    elif deed == "ink":
        black, coloured = chance.randrange(4), chance.randrange(4)
        printer.fill(black, coloured)
        rows.append(("ink", name, black, coloured))
    elif deed == "feed" and printer.paper_left(kind) > 0:
        black, coloured = (chance.randrange(left + 1) for left in printer.ink_left())
        came = printer.feed(("a", count), kind, black, coloured)
        rows.append(("feed", name, kind, "a", count, black, coloured))
        rows.extend(("out", name) + tag for tag in came)
    elif deed == "push":
        rows.extend(("out", name) + tag for tag in printer.push())
    elif deed == "jam":
        out, lost = printer.jam(chance.randrange(len(printer.within()) + 1))
        rows.extend(("out", name) + tag for tag in out)
        rows.extend(("lost", name) + tag for tag in lost)
        printer.mend()


class BooksOfPrinters(HallTest):
    def book(self, seed):
        """Printers that did many deeds, and the rows of these."""
        chance = random.Random(seed)
        printers = [Printer("p" + str(path), [], path, {"plain": GREAT, "thick": GREAT}, GREAT, GREAT)
                    for path in (1, 2, 3, 4)]
        rows = []
        for count in range(150):
            some_deed(chance, chance.choice(printers), rows, count)
        return printers, rows

    def test_what_printers_did_can_be(self):
        for seed in range(40):
            printers, rows = self.book(seed)
            self.assertIsNone(first_wrong(rows, {printer.name: printer.path for printer in printers}))
            for printer in printers:
                papers, black, coloured = held_of(rows, printer.name)
                self.assertEqual((black, coloured), printer.ink_left())
                for kind in ("plain", "thick"):
                    self.assertEqual(papers.get(kind, 0), printer.paper_left(kind))
                self.assertEqual(set(papers), {row[2] for row in rows if row[:2] == ("load", printer.name)})

    def test_sums_part_what_was_fed(self):
        for seed in range(40):
            printers, rows = self.book(seed)
            told = sums(rows)
            heaps = heaps_of(rows)
            for printer in printers:
                row = told.get(printer.name, [0] * 8)
                self.assertEqual(row[1], row[2] + row[3] + len(printer.within()))
                self.assertEqual(row[2], len(heaps.get(printer.name, [])))
                self.assertEqual((row[4] - row[5], row[6] - row[7]), printer.ink_left())
                left = sum(printer.paper_left(kind) for kind in printer.papers())
                self.assertEqual(row[0] - row[1], left)


if __name__ == "__main__":
    unittest.main()
