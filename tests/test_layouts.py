"""Sheets and cells, how each layout lays pages, and how sheets are read (points 8, 9 and 10)."""

import copy
import unittest

from spoolhall.layouts import Both, Layout, One, Several, layout_of

# Each layout's text, its class, its cells on a side and how many pages a sheet holds.
LAYOUTS = (
    [("one", One, 1, 1), ("both", Both, 1, 2)]
    + [("up:" + str(many), Several, many, 2 * many) for many in range(2, 17)]
)


def made(text):
    """A layout made by its class's own name."""
    if text == "one":
        return One()
    if text == "both":
        return Both()
    return Several(int(text.partition(":")[2]))


def edges(holds):
    """How many pages to lay: one, around a full sheet, around two of them, and the most."""
    return sorted({1, max(1, holds - 1), holds, holds + 1, 2 * holds, 2 * holds + 1, 998, 999})


def wanted_cell(text, cells, sheet, side, cell, pages):
    """The cell by the document's words: counted from the left, through all cells that are read."""
    if text == "one" and side == 1:
        return 0
    sides = 1 if text == "one" else 2
    page = (sheet * sides + side) * cells + cell + 1
    return page if page <= pages else 0


class Classes(unittest.TestCase):
    def test_each_stands_under_layout(self):
        for one in (One(), Both(), Several(2), Several(16)):
            self.assertIsInstance(one, Layout)

    def test_none_stands_under_another(self):
        kinds = (One, Both, Several)
        for first in kinds:
            self.assertTrue(issubclass(first, Layout))
            self.assertFalse(issubclass(Layout, first))
            for second in kinds:
                if first is not second:
                    self.assertFalse(issubclass(first, second))

    def test_layout_of_tells_the_class_of_each_layout(self):
        for text, kind, cells, holds in LAYOUTS:
            with self.subTest(text=text):
                told = layout_of(text)
                self.assertIs(type(told), kind)
                self.assertEqual(told.per_sheet(), holds)
                self.assertEqual(told.laid(7), made(text).laid(7))

    def test_per_sheet(self):
        for text, kind, cells, holds in LAYOUTS:
            with self.subTest(text=text):
                self.assertEqual(made(text).per_sheet(), holds)
                self.assertIs(type(made(text).per_sheet()), int)

    def test_several_keeps_its_own_number(self):
        small = Several(2)
        great = Several(16)
        self.assertEqual(small.per_sheet(), 4)
        self.assertEqual(great.per_sheet(), 32)
        self.assertEqual(small.laid(1), [([1, 0], [0, 0])])


class Laid(unittest.TestCase):
    def check(self, layout, pages, sheets):
        told = layout.laid(pages)
        self.assertEqual(told, sheets)
        self.assertIs(type(told), list)

    def test_one(self):
        self.check(One(), 1, [([1], [0])])
        self.check(One(), 2, [([1], [0]), ([2], [0])])
        self.check(One(), 3, [([1], [0]), ([2], [0]), ([3], [0])])

    def test_both(self):
        self.check(Both(), 1, [([1], [0])])
        self.check(Both(), 2, [([1], [2])])
        self.check(Both(), 3, [([1], [2]), ([3], [0])])
        self.check(Both(), 4, [([1], [2]), ([3], [4])])

    def test_up_2(self):
        self.check(Several(2), 1, [([1, 0], [0, 0])])
        self.check(Several(2), 2, [([1, 2], [0, 0])])
        self.check(Several(2), 3, [([1, 2], [3, 0])])
        self.check(Several(2), 4, [([1, 2], [3, 4])])
        self.check(Several(2), 5, [([1, 2], [3, 4]), ([5, 0], [0, 0])])

    def test_up_3(self):
        self.check(Several(3), 1, [([1, 0, 0], [0, 0, 0])])
        self.check(Several(3), 5, [([1, 2, 3], [4, 5, 0])])
        self.check(Several(3), 6, [([1, 2, 3], [4, 5, 6])])
        self.check(Several(3), 7, [([1, 2, 3], [4, 5, 6]), ([7, 0, 0], [0, 0, 0])])

    def test_up_16(self):
        nothing = [0] * 16
        first = list(range(1, 17))
        second = list(range(17, 33))
        self.check(Several(16), 1, [([1] + [0] * 15, nothing)])
        self.check(Several(16), 16, [(first, nothing)])
        self.check(Several(16), 31, [(first, second[:15] + [0])])
        self.check(Several(16), 32, [(first, second)])
        self.check(Several(16), 33, [(first, second), ([33] + [0] * 15, nothing)])

    def test_every_cell_of_every_layout(self):
        for text, kind, cells, holds in LAYOUTS:
            for pages in edges(holds):
                with self.subTest(text=text, pages=pages):
                    wanted = []
                    for sheet in range((pages + holds - 1) // holds):
                        sides = [[wanted_cell(text, cells, sheet, side, cell, pages) for cell in range(cells)]
                                 for side in (0, 1)]
                        wanted.append((sides[0], sides[1]))
                    self.check(made(text), pages, wanted)

    def test_a_sheet_is_a_tuple_of_two_lists_of_as_many_cells(self):
        for text, kind, cells, holds in LAYOUTS:
            for pages in edges(holds):
                for sheet in made(text).laid(pages):
                    self.assertIs(type(sheet), tuple)
                    self.assertEqual([type(side) for side in sheet], [list, list])
                    self.assertEqual([len(side) for side in sheet], [cells, cells])
                    self.assertEqual({type(cell) for side in sheet for cell in side}, {int})

    def test_as_few_sheets_as_hold_the_pages(self):
        for text, kind, cells, holds in LAYOUTS:
            for pages in range(1, 100):
                many = len(made(text).laid(pages))
                with self.subTest(text=text, pages=pages):
                    self.assertGreaterEqual(many * holds, pages)
                    self.assertLess((many - 1) * holds, pages)


class Reading(unittest.TestCase):
    def test_what_is_laid_is_read_again(self):
        for text, kind, cells, holds in LAYOUTS:
            for pages in edges(holds):
                with self.subTest(text=text, pages=pages):
                    layout = made(text)
                    told = layout.reading(layout.laid(pages))
                    self.assertIs(type(told), list)
                    self.assertEqual(told[:pages], list(range(1, pages + 1)))
                    self.assertEqual(len(told) % holds, 0)
                    self.assertEqual(told[pages:], [0] * (len(told) - pages))
                    self.assertLess(len(told) - pages, holds)

    def test_one_is_read_by_its_fronts_alone(self):
        self.assertEqual(One().reading([([4], [9]), ([0], [8]), ([7], [0])]), [4, 0, 7])

    def test_both_is_read_front_and_then_back(self):
        self.assertEqual(Both().reading([([4], [9]), ([0], [8]), ([7], [0])]), [4, 9, 0, 8, 7, 0])

    def test_several_is_read_front_and_then_back(self):
        sheets = [([9, 2, 0], [1, 0, 3]), ([0, 0, 5], [6, 6, 4])]
        self.assertEqual(Several(3).reading(sheets), [9, 2, 0, 1, 0, 3, 0, 0, 5, 6, 6, 4])

    def test_sheets_in_any_order_and_some_of_them(self):
        sheets = Several(2).laid(10)
        self.assertEqual(Several(2).reading([sheets[2], sheets[0]]), [9, 10, 0, 0, 1, 2, 3, 4])
        sheets = One().laid(5)
        self.assertEqual(One().reading([sheets[4], sheets[1], sheets[4]]), [5, 2, 5])

    def test_of_no_sheets(self):
        for text, kind, cells, holds in LAYOUTS:
            self.assertEqual(made(text).reading([]), [])


class TheAskersOwn(unittest.TestCase):
    def test_what_is_laid_is_new_each_time(self):
        for text, kind, cells, holds in LAYOUTS:
            layout = made(text)
            first = layout.laid(3 * holds)
            kept = copy.deepcopy(first)
            first[0][0][0] = 77
            first[0][1].append(78)
            first[1][1][0] = 79
            first.pop()
            with self.subTest(text=text):
                self.assertEqual(layout.laid(3 * holds), kept)
                self.assertEqual(made(text).laid(3 * holds), kept)

    def test_no_two_sides_share_their_list(self):
        for text, kind, cells, holds in LAYOUTS:
            sides = [side for sheet in made(text).laid(3 * holds + 1) for side in sheet]
            self.assertEqual(len({id(side) for side in sides}), len(sides))

    def test_what_is_laid_stays_when_it_is_laid_again(self):
        for text, kind, cells, holds in LAYOUTS:
            layout = made(text)
            first = layout.laid(holds + 1)
            kept = copy.deepcopy(first)
            second = layout.laid(1)
            second[0][0][0] = 5
            self.assertEqual(first, kept)

    def test_reading_changes_no_sheets_and_shares_none(self):
        for text, kind, cells, holds in LAYOUTS:
            layout = made(text)
            sheets = layout.laid(2 * holds)
            kept = copy.deepcopy(sheets)
            told = layout.reading(sheets)
            again = list(told)
            told[0] = 99
            told.append(100)
            with self.subTest(text=text):
                self.assertEqual(sheets, kept)
                self.assertEqual(layout.reading(sheets), again)

    def test_reading_of_one_sheet_is_not_its_front(self):
        sheets = [([1], [0])]
        One().reading(sheets).append(2)
        Both().reading(sheets).append(2)
        self.assertEqual(sheets, [([1], [0])])


if __name__ == "__main__":
    unittest.main()
