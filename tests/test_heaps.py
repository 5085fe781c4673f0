"""Heaps: their pieces, a job gathered out of several of them, the first sheet that lacks (point 21)."""

import copy
import unittest

from helping import GREAT, HallTest

from spoolhall.errors import NoHeap
from spoolhall.heaps import first_lack, gathered, pieces


def piece(name, *numbers):
    """A slip and its sheets."""
    return [(name, -1)] + [(name, number) for number in numbers]


class Pieces(HallTest):
    def check(self, heap, wanted):
        kept = list(heap)
        with self.subTest(heap=heap):
            told = pieces(heap)
            self.assertEqual(told, wanted)
            self.assertIs(type(told), list)
            for part in told:
                self.assertEqual((type(part), type(part[1])), (tuple, list))
            self.assertEqual(heap, kept)

    def test_no_tags(self):
        self.check([], [])

    def test_slips_alone(self):
        self.check([("a", -1)], [("a", [])])
        self.check([("a", -1), ("a", -1), ("b", -1)], [("a", []), ("a", []), ("b", [])])

    def test_one_piece(self):
        self.check(piece("a", 0), [("a", [0])])
        self.check(piece("a", 0, 1, 2), [("a", [0, 1, 2])])
        self.check(piece("a", 5, 6), [("a", [5, 6])])

    def test_several_pieces_of_several_jobs(self):
        self.check(piece("a", 0, 1) + piece("b", 0) + piece("a", 2), [("a", [0, 1]), ("b", [0]), ("a", [2])])
        self.check(piece("a", 0) + piece("a", 1), [("a", [0]), ("a", [1])])

    def test_pieces_without_sheets_are_told(self):
        self.check(piece("b") + piece("a", 4) + piece("b") + piece("b", 0) + piece("a"),
                   [("b", []), ("a", [4]), ("b", []), ("b", [0]), ("a", [])])

    def test_numbers_stay_in_the_heaps_order(self):
        self.check(piece("a", 7, 8) + piece("a", 0, 1), [("a", [7, 8]), ("a", [0, 1])])
        self.check(piece("a", 3, 1, 2), [("a", [3, 1, 2])])

    def test_long_ones(self):
        self.check(piece("a", *range(5000)), [("a", list(range(5000)))])
        self.check([("a", -1)] * 300, [("a", [])] * 300)

    def test_a_sheet_ahead_of_all_slips(self):
        for heap in (
            [("a", 0)], [("a", 7)], [("a", 0)] + piece("a", 1), [("a", 0), ("b", 0)], [("b", GREAT)] + piece("a", 0),
        ):
            self.refused(NoHeap, {"place": 0}, lambda: pieces(heap))

    def test_a_sheet_behind_a_slip_of_another_name(self):
        for heap, place in (
            (piece("a") + [("b", 0)], 1),
            (piece("a", 0, 1) + [("b", 0)], 3),
            (piece("a", 0, 1) + [("b", 2), ("a", 2)], 3),
            (piece("a", 0) + piece("b") + [("a", 1)], 3),
            (piece("a", 0) + piece("b", 0) + [("a", 1), ("c", 1)], 4),
            (piece("a", 0) + piece("b", 0) + piece("a", 1) + [("b", 1)], 6),
            (piece("a") + [("aa", 0)], 1),
            (piece("a") + [("", 0)], 1),
        ):
            kept = list(heap)
            with self.subTest(heap=heap):
                self.refused(NoHeap, {"place": place}, lambda: pieces(heap))
                self.assertEqual(heap, kept)

    def test_what_is_told_is_the_askers_own(self):
        heap = piece("a", 0, 1) + piece("b", 0)
        first = pieces(heap)
        first[0][1].append(9)
        first[1][1].clear()
        first.pop()
        self.assertEqual(pieces(heap), [("a", [0, 1]), ("b", [0])])
        self.assertEqual(first, [("a", [0, 1, 9])])
        told = pieces(heap)
        heap.append(("b", 1))
        self.assertEqual(told, [("a", [0, 1]), ("b", [0])])


class Gathered(HallTest):
    HEAPS = {
        "p1": piece("a", 4, 5) + piece("b", 0) + piece("a", 8) + piece("a"),
        "p2": [],
        "p3": piece("b", 1, 2) + piece("a", 0, 1, 2, 3),
        "p4": piece("c", 0, 1),
        "p5": piece("a") + piece("a", 6, 7) + piece("b"),
    }

    def check(self, heaps, name, wanted):
        kept = copy.deepcopy(heaps)
        told = gathered(heaps, name)
        self.assertEqual(told, wanted)
        self.assertIs(type(told), list)
        for part in told:
            self.assertEqual((type(part), type(part[1])), (tuple, list))
        self.assertEqual(heaps, kept)
        self.assertEqual(list(heaps), list(kept))

    def test_by_the_first_numbers(self):
        self.check(self.HEAPS, "a", [("p3", [0, 1, 2, 3]), ("p1", [4, 5]), ("p5", [6, 7]), ("p1", [8])])
        self.check(self.HEAPS, "b", [("p1", [0]), ("p3", [1, 2])])
        self.check(self.HEAPS, "c", [("p4", [0, 1])])

    def test_numbers_are_sorted_as_numbers(self):
        heaps = {"p1": piece("a", 10, 11), "p2": piece("a", 9), "p3": piece("a", 100), "p4": piece("a", 2)}
        self.check(heaps, "a", [("p4", [2]), ("p2", [9]), ("p1", [10, 11]), ("p3", [100])])

    def test_the_first_numbers_alone_count(self):
        heaps = {"p1": piece("a", 5, 0), "p2": piece("a", 3, 9, 1), "p3": piece("a", 4, 8)}
        self.check(heaps, "a", [("p2", [3, 9, 1]), ("p3", [4, 8]), ("p1", [5, 0])])

    def test_a_job_that_lies_nowhere(self):
        self.check(self.HEAPS, "d", [])
        self.check({}, "a", [])
        self.check({"p1": []}, "a", [])
        self.check({"p1": piece("a"), "p2": piece("a")}, "a", [])

    def test_printers_called_like_the_job(self):
        self.check({"a": piece("b", 0), "b": piece("a", 0)}, "a", [("b", [0])])

    def test_a_heap_that_is_none(self):
        bad = piece("b", 0) + [("c", 0)]
        worse = [("b", 0)]
        self.refused(NoHeap, {"place": 2}, lambda: gathered({"p1": bad}, "b"))
        for name in ("a", "b", "c", "d"):
            for heaps, place in (
                ({"p1": piece("a", 0), "p2": bad}, 2),
                ({"p1": bad, "p2": piece("a", 0)}, 2),
                ({"p1": bad, "p2": worse}, 2),
                ({"p2": worse, "p1": bad}, 0),
                ({"z": worse, "a": bad}, 0),
                ({"z": bad, "a": worse}, 2),
            ):
                kept = copy.deepcopy(heaps)
                with self.subTest(name=name, heaps=heaps):
                    self.refused(NoHeap, {"place": place}, lambda: gathered(heaps, name))
                    self.assertEqual(heaps, kept)

    def test_what_is_told_is_the_askers_own(self):
        heaps = {"p1": piece("a", 2, 3), "p2": piece("a", 0, 1)}
        first = gathered(heaps, "a")
        first[0][1].append(9)
        first.pop()
        self.check(heaps, "a", [("p2", [0, 1]), ("p1", [2, 3])])
        told = gathered(heaps, "a")
        heaps["p2"].append(("a", 7))
        heaps["p3"] = piece("a", 8)
        self.assertEqual(told, [("p2", [0, 1]), ("p1", [2, 3])])


class FirstLack(HallTest):
    HEAPS = {
        "p1": piece("a", 2, 3) + piece("b", 0, 1) + piece("a"),
        "p2": [],
        "p3": piece("a", 0, 1) + piece("c", 1, 2) + piece("a", 6),
        "p4": piece("b", 2, 3, 4, 5),
    }

    def check(self, heaps, name, total, wanted):
        kept = copy.deepcopy(heaps)
        with self.subTest(name=name, total=total):
            told = first_lack(heaps, name, total)
            self.assertEqual(told, wanted)
            self.assertIs(type(told), type(wanted))
            self.assertEqual(heaps, kept)

    def test_amid(self):
        self.check(self.HEAPS, "a", 7, 4)
        self.check(self.HEAPS, "a", 8, 4)
        self.check(self.HEAPS, "a", 5, 4)

    def test_at_the_beginning(self):
        self.check(self.HEAPS, "c", 3, 0)
        self.check(self.HEAPS, "d", 1, 0)
        self.check({}, "a", 1, 0)
        self.check({"p1": piece("a")}, "a", 1, 0)
        self.check({"p1": piece("b", 0)}, "a", 1, 0)

    def test_at_the_end(self):
        self.check(self.HEAPS, "b", 7, 6)
        self.check(self.HEAPS, "b", GREAT, 6)
        self.check({"p1": piece("a", 0, 1)}, "a", 3, 2)

    def test_none(self):
        self.check(self.HEAPS, "a", 4, None)
        self.check(self.HEAPS, "b", 6, None)
        self.check({"p1": piece("a", 0)}, "a", 1, None)
        self.check({"p1": piece("a", *range(2000))}, "a", 2000, None)

    def test_each_total(self):
        for total in range(1, 9):
            self.check(self.HEAPS, "a", total, 4 if total > 4 else None)

    def test_each_sheet_that_may_lack(self):
        for lack in range(10):
            low = piece("a", *range(lack))
            high = piece("a", *range(lack + 1, 10))
            self.check({"p1": high, "p2": low}, "a", 10, lack)
            self.check({"p1": low + high}, "a", 10, lack)


if __name__ == "__main__":
    unittest.main()
