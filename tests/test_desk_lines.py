"""Desk's lines that are none: the place of the first wrong word (points 4 and 38)."""

import unittest

from helping import HallDeeds, hall_picture
from test_desk import opened

from spoolhall.desk import Desk
from spoolhall.errors import BadLine, Unknown

NO_NAMES = ("", "P1", "1p", "p_1", "p-1", "-", "+p1", "abcdefghijklm", "p1,", "p:1", "*")
NO_NUMBERS = ("", "-1", "+1", "01", "00", "1000000000", "0000000001", "1.0", "one", "1_0", "0x1", "1,")

NAME = (NO_NAMES, ("a", "p9", "abcdefghijkl", "x123456789yz"))
FROM_NOUGHT = (NO_NUMBERS, ("0", "1", "999999999"))
FROM_ONE = (NO_NUMBERS + ("0",), ("1", "999999999"))
STEPS = (NO_NUMBERS + ("0", "1000", "999999999"), ("1", "999"))
RANK = (NO_NUMBERS + ("10", "99"), ("0", "9"))
SHARE = (NO_NUMBERS + ("0", "11"), ("1", "10"))
PATH = (NO_NUMBERS + ("0", "5"), ("1", "4"))
ROOM = (NO_NUMBERS + ("0", "1", "31"), ("32", "999999999"))

# Of each line but a job's: its first word, and for each word behind it those that are wrong there, and right ones.
LINES = {
    "asker": (NAME, RANK, SHARE),
    "start": (NAME,),
    "step": (NAME, STEPS),
    "jam": (NAME, FROM_NOUGHT),
    "leave": (NAME,),
    "mend": (NAME,),
    "come": (NAME,),
    "load": (NAME, NAME, FROM_ONE),
    "fill": (NAME, FROM_NOUGHT, FROM_NOUGHT),
    "take": (NAME, NAME),
    "drop": (NAME,),
    "how": (NAME,),
    "ahead": (NAME,),
    "never": (),
    "heap": (NAME,),
    "sums": (NAME,),
    "plan": (NAME,),
    "hand": (NAME,),
}
PRINTER = (NAME, PATH, ROOM, ROOM)

# Words that are no option of a printer.
NO_OPTIONS = ("", "one", "Both", "stapled", "plain", "plain:", ":5", ":", "plain:0", "plain:05", "plain:-1",
              "plain:1000000000", "Plain:5", "1plain:5", "plain:5:5", "plain:5,", "abcdefghijklm:5", "plain-5",
              "colour:1-2", "x3", "both:", "paper:plain")


def right_words(first, shape):
    return [first] + [part[1][0] for part in shape]


class BadLines(HallDeeds):
    def bad(self, words, place):
        """The words' line is refused with this place by a new desk and amid a day, and changes nothing."""
        line = " ".join(words)
        self.refused(BadLine, {"place": place}, lambda: Desk().say(line))
        kept = hall_picture(self.desk.hall)
        self.refused(BadLine, {"place": place}, lambda: self.desk.say(line))
        self.assertEqual(hall_picture(self.desk.hall), kept)

    def good(self, words):
        """The words' line is no bad one, whatever the hall says of it."""
        desk = opened("job a anna 3")
        try:
            desk.say(" ".join(words))
        except BadLine:
            self.fail(words)
        except ValueError:
            pass

    def setUp(self):
        self.desk = opened("job a anna 9", "job b bert 9", "start p1", "step p1 4")

    def test_first_words_that_are_none(self):
        for word in ("", "x", "Start", "starts", "p1", "start:", "1", "-", "one", "quit", "printers", "able", "book"):
            self.bad([word], 0)
            self.bad([word, "p1"], 0)
            self.bad([word, "P1", "P1", ""], 0)

    def test_a_wrong_word_in_each_place(self):
        for first, shape in list(LINES.items()) + [("printer", PRINTER)]:
            for place, (wrong, right) in enumerate(shape, start=1):
                for word in wrong:
                    words = right_words(first, shape)
                    words[place] = word
                    self.bad(words, place)
                    # What stands behind it is not looked at, nor whether something lacks.
                    self.bad(words[:place + 1], place)
                    self.bad(words[:place + 1] + ["", "?", "01"], place)

    def test_right_words_in_each_place(self):
        for first, shape in LINES.items():
            self.good(right_words(first, shape))
            for place, (wrong, right) in enumerate(shape, start=1):
                for word in right:
                    words = right_words(first, shape)
                    words[place] = word
                    self.good(words)
        for place, (wrong, right) in enumerate(PRINTER, start=1):
            for word in right:
                words = right_words("printer", PRINTER) + ["plain:1"]
                words[place] = word
                self.good(words)

    def test_one_too_many(self):
        for first, shape in LINES.items():
            words = right_words(first, shape)
            for word in ("", "p1", "0", "1", "x", "start", "?"):
                self.bad(words + [word], len(words))
                self.bad(words + [word, "x"], len(words))

    def test_one_too_few(self):
        for first, shape in list(LINES.items()) + [("printer", PRINTER)]:
            words = right_words(first, shape)
            for many in range(1, len(words)):
                self.bad(words[:many], many)
        self.bad(right_words("printer", PRINTER), 5)

    def test_two_blanks_side_by_side_and_blanks_at_the_ends(self):
        for first, shape in LINES.items():
            words = right_words(first, shape)
            for place in range(len(words) + 1):
                self.bad(words[:place] + [""] + words[place:], place)
        words = right_words("printer", PRINTER) + ["plain:5", "both"]
        for place in range(len(words) + 1):
            self.bad(words[:place] + [""] + words[place:], place)
        words = ["job", "c", "anna", "3", "both"]
        for place in range(len(words) + 1):
            self.bad(words[:place] + [""] + words[place:], place)
        self.bad(["", ""], 0)

    def test_signs_that_are_no_blanks(self):
        self.bad(["start\tp1"], 0)
        self.bad(["start", "p1\n"], 1)
        self.bad(["never\n"], 0)

    def test_a_printers_options(self):
        head = right_words("printer", PRINTER)
        for word in NO_OPTIONS:
            self.bad(head + [word], 5)
            self.bad(head + ["plain:5", word], 6)
            self.bad(head + ["both", word, "plain:5"], 6)
            self.bad(head + ["both", "thick:5", "colour", word, word], 8)

    def test_a_printers_option_twice(self):
        head = right_words("printer", PRINTER)
        for word in ("both", "colour", "staple"):
            self.bad(head + [word, word, "plain:5"], 6)
            self.bad(head + ["plain:5", word, "thick:5", word], 8)
        self.bad(head + ["plain:5", "plain:6"], 6)
        self.bad(head + ["plain:5", "both", "thick:1", "plain:5"], 8)

    def test_a_printer_without_a_tray(self):
        head = right_words("printer", PRINTER)
        self.bad(head, 5)
        self.bad(head + ["both"], 6)
        self.bad(head + ["both", "staple"], 7)
        self.bad(head + ["colour", "both", "staple"], 8)
        self.good(head + ["colour", "both", "staple", "plain:1"])
        self.good(head + ["plain:1", "colour", "thick:999999999", "both", "staple"])

    def test_a_jobs_line(self):
        for line, place in (
            ("job", 1), ("job ", 1), ("job A", 1), ("job c", 2), ("job c Anna", 2), ("job c anna", 3),
            ("job c anna 0", 3), ("job c anna 1000", 3), ("job c anna 3 one", 4), ("job c anna 3 both both", 5),
            ("job c anna 3 both up:2", 5), ("job c anna 3 after:x x2 after:x", 6), ("job c anna 3 colour:2-4", 4),
            ("job c anna 3 ", 4), ("job  c anna 3", 1), ("job c  anna 3", 2), ("job job anna 3 job", 4),
        ):
            self.bad(line.split(" "), place)

    def test_bad_lines_go_ahead_of_all_else(self):
        self.bad("printer p1 1 32 32".split(" "), 5)
        self.bad("asker anna 5 11".split(" "), 3)
        self.bad("job a zoe 3 paper:gold paper:gold".split(" "), 5)
        self.bad("start p9 p9".split(" "), 2)
        self.bad("step p9 1000".split(" "), 2)
        self.bad("jam p2 -1".split(" "), 2)
        self.bad("load p9 gold 0".split(" "), 3)
        self.bad("take x P1".split(" "), 2)
        self.bad("drop x x".split(" "), 2)

    def test_names_that_nothing_has_are_names(self):
        self.refused(Unknown, {"name": "never"}, lambda: self.desk.say("heap never"))
        self.refused(Unknown, {"name": "abcdefghijkl"}, lambda: self.desk.say("how abcdefghijkl"))
        self.refused(Unknown, {"name": "anna"}, lambda: self.desk.say("start anna"))


if __name__ == "__main__":
    unittest.main()
