"""The refusals: under the base alone, and keeping what they are made of (point 2 and the interface)."""

import unittest

from spoolhall.errors import (
    BadLine,
    Busy,
    Dry,
    GoesRound,
    HallError,
    NoHeap,
    NoPrinter,
    NotNow,
    NoWay,
    Nowhere,
    Over,
    TooMuch,
    Twice,
    Unknown,
)

LACKS = [("p1", ["both", "paper:thick"]), ("p2", [])]

# Each class with the names of its values and what it is made of, both in the interface's order.
REFUSALS = [
    (BadLine, ["place"], [3]),
    (Unknown, ["name"], ["anna"]),
    (Twice, ["name"], ["bert"]),
    (NotNow, ["found"], ["jammed"]),
    (TooMuch, ["name"], ["within"]),
    (Dry, ["name"], ["black"]),
    (Over, ["job"], ["letter"]),
    (Nowhere, ["job"], ["book"]),
    (Busy, ["job"], ["poster"]),
    (NoHeap, ["place"], [0]),
    (NoPrinter, ["job", "lacks"], ["letter", LACKS]),
    (GoesRound, ["ring"], [["a", "b", "c"]]),
    (NoWay, ["place"], [12]),
]


def is_taken(made, taker):
    try:
        raise made
    except taker:
        return True
    except BaseException:
        return False


class Classes(unittest.TestCase):
    def test_there_are_thirteen(self):
        self.assertEqual(len({refusal for refusal, _, _ in REFUSALS}), 13)

    def test_base_is_a_value_error(self):
        self.assertTrue(issubclass(HallError, ValueError))

    def test_each_is_taken_by_the_base_by_value_error_and_by_its_own_name(self):
        for refusal, _, made_of in REFUSALS:
            for taker in (HallError, ValueError, refusal):
                with self.subTest(refusal=refusal, taker=taker):
                    self.assertTrue(is_taken(refusal(*made_of), taker))

    def test_none_is_taken_by_another(self):
        for refusal, _, made_of in REFUSALS:
            for other, _, _ in REFUSALS:
                if other is not refusal:
                    with self.subTest(refusal=refusal, other=other):
                        self.assertFalse(is_taken(refusal(*made_of), other))
                        self.assertFalse(issubclass(refusal, other))

    def test_the_base_stands_under_none(self):
        for refusal, _, _ in REFUSALS:
            with self.subTest(refusal=refusal):
                self.assertFalse(issubclass(HallError, refusal))

    def test_each_stands_under_the_base_alone(self):
        for refusal, _, _ in REFUSALS:
            with self.subTest(refusal=refusal):
                self.assertEqual(refusal.__bases__, (HallError,))


class Values(unittest.TestCase):
    def test_each_keeps_what_it_is_made_of(self):
        for refusal, names, made_of in REFUSALS:
            made = refusal(*made_of)
            for name, value in zip(names, made_of, strict=True):
                with self.subTest(refusal=refusal, name=name):
                    self.assertEqual(getattr(made, name), value)
                    self.assertIs(type(getattr(made, name)), type(value))

    def test_each_keeps_other_values_likewise(self):
        for place in (0, 1, 2, 59, 10 ** 59):
            for refusal in (BadLine, NoHeap, NoWay):
                self.assertEqual(refusal(place).place, place)
        for text in ("", "a", "no name at all", "x" * 400):
            for refusal in (Unknown, Twice, TooMuch, Dry):
                self.assertEqual(refusal(text).name, text)
            for refusal in (Over, Nowhere, Busy):
                self.assertEqual(refusal(text).job, text)
            self.assertEqual(NotNow(text).found, text)

    def test_two_of_a_class_keep_their_own(self):
        others = {int: 7, str: "other", list: []}
        for refusal, names, made_of in REFUSALS:
            first = refusal(*made_of)
            refusal(*[others[type(value)] for value in made_of])
            for name, value in zip(names, made_of, strict=True):
                with self.subTest(refusal=refusal, name=name):
                    self.assertEqual(getattr(first, name), value)

    def test_lists_may_be_empty(self):
        self.assertEqual(NoPrinter("letter", []).lacks, [])
        self.assertEqual(GoesRound([]).ring, [])


class ListsOfTheirOwn(unittest.TestCase):
    def test_a_change_of_what_was_handed_in_changes_no_error(self):
        inner = ["both"]
        lacks = [("p1", inner)]
        ring = ["a", "b"]
        no_printer = NoPrinter("letter", lacks)
        goes_round = GoesRound(ring)
        inner.append("staple")
        lacks.append(("p2", []))
        ring.append("c")
        self.assertEqual(no_printer.lacks, [("p1", ["both"])])
        self.assertEqual(goes_round.ring, ["a", "b"])

    def test_a_change_of_what_an_error_tells_changes_nothing_handed_in(self):
        lacks = [("p1", ["both"])]
        ring = ["a", "b"]
        no_printer = NoPrinter("letter", lacks)
        goes_round = GoesRound(ring)
        no_printer.lacks[0][1].append("staple")
        no_printer.lacks.append(("p2", []))
        goes_round.ring.append("c")
        self.assertEqual(lacks, [("p1", ["both"])])
        self.assertEqual(ring, ["a", "b"])


if __name__ == "__main__":
    unittest.main()
