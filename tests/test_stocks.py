"""Stocks: what is put and what is drawn (point 15)."""

import unittest

from spoolhall.errors import Dry, TooMuch, Unknown
from spoolhall.stocks import Stock

GREAT = 10 ** 59
NAMES = ("plain", "thick", "thin")


def stock_of(held):
    """A stock with rooms of ten for three names, which holds so many of each."""
    stock = Stock({"plain": 10, "thick": 10, "thin": 10})
    for name, many in zip(NAMES, held):
        stock.put(name, many)
    return stock


class StockTest(unittest.TestCase):
    def holds(self, stock, held):
        self.assertEqual([stock.held(name) for name in NAMES], list(held))

    def refused(self, refusal, name, deed):
        with self.assertRaises(refusal) as caught:
            deed()
        self.assertEqual(caught.exception.name, name)


class Making(StockTest):
    def test_empty_at_first(self):
        stock = Stock({"plain": 5, "thick": 1})
        self.assertEqual([stock.held("plain"), stock.held("thick")], [0, 0])
        self.assertEqual([stock.room("plain"), stock.room("thick")], [5, 1])

    def test_names_that_it_has_not(self):
        stock = Stock({"plain": 5})
        for name in ("thick", "", "Plain", "plain "):
            self.refused(Unknown, name, lambda: stock.held(name))
            self.refused(Unknown, name, lambda: stock.room(name))

    def test_of_no_names(self):
        stock = Stock({})
        self.refused(Unknown, "plain", lambda: stock.held("plain"))
        self.refused(Unknown, "plain", lambda: stock.put("plain", 0))
        self.assertIsNone(stock.draw_all([]))

    def test_the_rooms_are_the_stocks_own(self):
        rooms = {"plain": 5, "thick": 3}
        stock = Stock(rooms)
        stock.put("plain", 2)
        self.assertEqual(rooms, {"plain": 5, "thick": 3})
        rooms["plain"] = 1
        rooms["thin"] = 9
        rooms.pop("thick")
        self.assertEqual([stock.room("plain"), stock.room("thick")], [5, 3])
        self.assertEqual(stock.held("thick"), 0)
        stock.put("plain", 3)
        stock.put("thick", 3)
        self.refused(Unknown, "thin", lambda: stock.room("thin"))
        self.refused(Unknown, "thin", lambda: stock.held("thin"))

    def test_two_stocks_of_one_dict_are_two(self):
        rooms = {"plain": 5}
        first = Stock(rooms)
        second = Stock(rooms)
        first.put("plain", 4)
        self.assertEqual([first.held("plain"), second.held("plain")], [4, 0])


class Putting(StockTest):
    def test_none_some_and_up_to_the_room(self):
        stock = stock_of((0, 0, 0))
        self.assertIsNone(stock.put("plain", 0))
        self.holds(stock, (0, 0, 0))
        self.assertIsNone(stock.put("plain", 4))
        self.holds(stock, (4, 0, 0))
        self.assertIsNone(stock.put("plain", 6))
        self.holds(stock, (10, 0, 0))
        self.assertIsNone(stock.put("plain", 0))
        self.holds(stock, (10, 0, 0))
        self.assertEqual(stock.room("plain"), 10)

    def test_all_at_once(self):
        stock = stock_of((0, 0, 0))
        stock.put("thin", 10)
        self.holds(stock, (0, 0, 10))

    def test_one_more_than_the_room(self):
        for held in range(11):
            stock = stock_of((1, held, 2))
            self.refused(TooMuch, "thick", lambda: stock.put("thick", 11 - held))
            self.refused(TooMuch, "thick", lambda: stock.put("thick", GREAT))
            self.holds(stock, (1, held, 2))
            stock.put("thick", 10 - held)
            self.holds(stock, (1, 10, 2))

    def test_unknown_goes_first(self):
        stock = stock_of((1, 2, 3))
        for many in (0, 1, 11, GREAT):
            self.refused(Unknown, "glossy", lambda: stock.put("glossy", many))
        self.holds(stock, (1, 2, 3))

    def test_great_rooms(self):
        stock = Stock({"plain": GREAT})
        stock.put("plain", GREAT - 1)
        self.refused(TooMuch, "plain", lambda: stock.put("plain", 2))
        stock.put("plain", 1)
        self.assertEqual(stock.held("plain"), GREAT)


class Drawing(StockTest):
    def test_none_some_and_all(self):
        stock = stock_of((7, 8, 9))
        self.assertIsNone(stock.draw_all([]))
        self.assertIsNone(stock.draw_all([("plain", 0)]))
        self.holds(stock, (7, 8, 9))
        self.assertIsNone(stock.draw_all([("plain", 3)]))
        self.holds(stock, (4, 8, 9))
        self.assertIsNone(stock.draw_all([("plain", 4)]))
        self.holds(stock, (0, 8, 9))
        self.assertIsNone(stock.draw_all([("plain", 0)]))
        self.holds(stock, (0, 8, 9))

    def test_one_more_than_there_are(self):
        for held in range(11):
            stock = stock_of((1, held, 2))
            self.refused(Dry, "thick", lambda: stock.draw_all([("thick", held + 1)]))
            self.holds(stock, (1, held, 2))

    def test_what_was_drawn_makes_room(self):
        stock = stock_of((10, 0, 0))
        stock.draw_all([("plain", 3)])
        self.refused(TooMuch, "plain", lambda: stock.put("plain", 4))
        stock.put("plain", 3)
        self.holds(stock, (10, 0, 0))

    def test_several_at_once(self):
        stock = stock_of((7, 8, 9))
        stock.draw_all([("thin", 9), ("plain", 2), ("thick", 0)])
        self.holds(stock, (5, 8, 0))
        stock.draw_all([("plain", 5), ("thick", 8)])
        self.holds(stock, (0, 0, 0))

    def test_several_all_or_none(self):
        for wants, name in (
            ([("plain", 1), ("thick", 9)], "thick"),
            ([("thick", 9), ("plain", 1)], "thick"),
            ([("plain", 8), ("thick", 9), ("thin", 10)], "plain"),
            ([("thin", 10), ("thick", 9), ("plain", 8)], "thin"),
            ([("thin", 9), ("thick", 9), ("plain", 8)], "thick"),
            ([("thin", 9), ("thick", 8), ("plain", 8)], "plain"),
        ):
            stock = stock_of((7, 8, 9))
            with self.subTest(wants=wants):
                self.refused(Dry, name, lambda: stock.draw_all(wants))
                self.holds(stock, (7, 8, 9))

    def test_unknown_goes_ahead_of_dry_wherever_it_stands(self):
        for wants, name in (
            ([("glossy", 0)], "glossy"),
            ([("glossy", 1), ("plain", 8)], "glossy"),
            ([("plain", 8), ("glossy", 1)], "glossy"),
            ([("plain", 8), ("thick", 9), ("glossy", 0)], "glossy"),
            ([("plain", 1), ("glossy", 0), ("thick", 1)], "glossy"),
            ([("plain", 8), ("glossy", 1), ("satin", 1)], "glossy"),
            ([("satin", 1), ("plain", 8), ("glossy", 1)], "satin"),
            ([("plain", 1), ("thick", 1), ("thin", 1), ("satin", 0), ("glossy", 0)], "satin"),
        ):
            stock = stock_of((7, 8, 9))
            with self.subTest(wants=wants):
                self.refused(Unknown, name, lambda: stock.draw_all(wants))
                self.holds(stock, (7, 8, 9))

    def test_the_wants_stay_as_they_were(self):
        stock = stock_of((7, 8, 9))
        for wants in ([("plain", 1), ("thick", 2)], [("plain", 99), ("thick", 2)], [("thick", 2), ("glossy", 0)]):
            kept = list(wants)
            try:
                stock.draw_all(wants)
            except (Dry, Unknown):
                pass
            self.assertEqual(wants, kept)
        wants = [("plain", 1)]
        stock.draw_all(wants)
        wants.append(("thin", 5))
        wants[0] = ("plain", 3)
        self.holds(stock, (5, 6, 9))


if __name__ == "__main__":
    unittest.main()
