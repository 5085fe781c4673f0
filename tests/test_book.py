"""The book: what was written is told (point 31)."""

import unittest

from helping import GREAT, HallTest

from spoolhall.book import Book

ROWS = [
    ("load", "p1", "plain", 5),
    ("ink", "p1", 10, 0),
    ("feed", "p1", "plain", "letter", -1, 0, 0),
    ("feed", "p1", "plain", "letter", 0, 1, 0),
    ("out", "p1", "letter", -1),
    ("lost", "p1", "letter", 0),
]


class Books(HallTest):
    def test_nothing_at_first(self):
        self.assertEqual(Book().told(), [])

    def test_what_was_written_is_told_in_its_order(self):
        book = Book()
        for many, row in enumerate(ROWS):
            self.assertIsNone(book.write(row))
            self.assertEqual(book.told(), ROWS[:many + 1])
        self.assertIs(type(book.told()), list)
        self.assertTrue(all(type(row) is tuple for row in book.told()))

    def test_rows_may_come_again(self):
        book = Book()
        for row in ROWS + ROWS:
            book.write(row)
        self.assertEqual(book.told(), ROWS + ROWS)

    def test_nothing_is_looked_at(self):
        rows = [
            ("out", "p9", "none", 77),
            ("lost", "p9", "none", -1),
            ("feed", "p9", "gold", "none", 5, GREAT, GREAT),
            ("load", "", "", 0),
            ("ink", "p9", 0, GREAT),
        ]
        book = Book()
        for row in rows:
            book.write(row)
        self.assertEqual(book.told(), rows)

    def test_a_long_book(self):
        book = Book()
        rows = [("load", "p" + str(place % 7), "plain", place) for place in range(5000)]
        for row in rows:
            book.write(row)
        self.assertEqual(book.told(), rows)

    def test_what_is_told_is_the_askers_own(self):
        book = Book()
        book.write(ROWS[0])
        first = book.told()
        book.write(ROWS[1])
        self.assertEqual(first, ROWS[:1])
        first.append(ROWS[5])
        self.assertEqual(book.told(), ROWS[:2])
        book.told().clear()
        self.assertEqual(book.told(), ROWS[:2])

    def test_books_share_nothing(self):
        first = Book()
        second = Book()
        first.write(ROWS[0])
        self.assertEqual(second.told(), [])


if __name__ == "__main__":
    unittest.main()
