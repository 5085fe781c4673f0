"""Lines that tell no job, and the place that BadLine tells (points 5 and 6)."""

import itertools
import unittest

from spoolhall.errors import BadLine, HallError
from spoolhall.jobs import read_job

WRONG_NAMES = ("", "A", "aB", "Anna", "1", "1a", "9", "a-b", "a_b", "a:b", "a.", ":a", "-", "abcdefghijklm",
               "abcdefghij123", "up:2", "paper:a", "colour:1-2")
WRONG_PAGES = ("", "0", "1000", "1001", "9999", "01", "001", "010", "-1", "+1", "1.0", "1_0", "a", "x2", "1a", "a1",
               "1000000000", "both", "staple", "paper:a", "after:a", "colour:1-1")

# One right word of each sort, for a job of five pages.
RIGHT = ("x2", "both", "colour:2-4", "paper:thick", "cover:thin", "staple", "after:c")

# Words that are wrong behind the head of a job of five pages.
WRONG_WORDS = (
    # no words of any sort
    "", "a", "1", "7", "one", "plain", "thick", "two", "none", "copies", "layout", "layout:both", "copies:2", "pages",
    "pages:2", "name:a", "asker:a", "black", ":", "-", "+", "true",
    # copies
    "x", "x0", "x100", "x101", "x999", "x01", "x00", "x-1", "x+1", "xx", "x2x", "2x", "X2", "x:2", "x1.0", "xa", "x2-3",
    "x1000000000",
    # layouts
    "up", "up:", "up:0", "up:1", "up:17", "up:18", "up:20", "up:99", "up:02", "up:a", "up2", "up:2:2", "UP:2", "Both",
    "both:", "both2", "bot", "up:both", "up:one", "one:", "up:1one",
    # coloured pages
    "colour", "colour:", "colour:1", "colour:-", "colour:1-", "colour:-1", "colour:0-1", "colour:0-0", "colour:0-5",
    "colour:2-1", "colour:5-4", "colour:5-1", "colour:1-6", "colour:5-6", "colour:6-6", "colour:6-7", "colour:3-10",
    "colour:6-5", "colour:01-2", "colour:1-02", "colour:1-2-3", "colour:1--2", "colour:--", "colour:a-b", "colour:1-b",
    "colour:a-2", "colour:1:2", "colour:1,2", "colour1-2", "color:1-2", "Colour:1-2", "colour::1-2", "colour:1-2:",
    "colour:1-1000000000", "colour:+1-2", "colour:1-+2",
    # papers
    "paper", "paper:", "paper:A", "paper:1", "paper:1a", "paper:a-b", "paper:a:b", "paper::a", "paper:abcdefghijklm",
    "Paper:a", "papera", "papers:a", "paper-a", "paper:aB",
    # covers
    "cover", "cover:", "cover:A", "cover:1", "cover:1a", "cover:a-b", "cover:a:b", "cover::a", "cover:abcdefghijklm",
    "Cover:a", "covera", "covers:a", "cover-a", "cover:aB",
    # staples
    "staple:", "staples", "Staple", "STAPLE", "stapl", "staple1", "xstaple", "staple:a", "nostaple",
    # names told after
    "after", "after:", "after:A", "after:1", "after:1a", "after:a-b", "after:a:b", "after::a", "after:abcdefghijklm",
    "After:a", "aftera", "afters:a", "after-a", "after:aB", "after:c,d",
)

# Pairs of words of one sort: the second of them is wrong, be it the same or another.
SECONDS = (
    ("x2", "x2"), ("x2", "x3"), ("x1", "x1"), ("x1", "x2"), ("x2", "x1"),
    ("both", "both"), ("both", "up:2"), ("up:2", "both"), ("up:2", "up:2"), ("up:2", "up:4"), ("up:16", "up:2"),
    ("colour:2-4", "colour:2-4"), ("colour:1-1", "colour:2-5"), ("colour:1-5", "colour:1-1"),
    ("paper:thick", "paper:thick"), ("paper:thick", "paper:thin"), ("paper:plain", "paper:thin"),
    ("paper:thin", "paper:plain"), ("paper:plain", "paper:plain"),
    ("cover:thick", "cover:thick"), ("cover:thick", "cover:thin"), ("cover:plain", "cover:thin"),
    ("cover:plain", "cover:plain"),
    ("staple", "staple"),
    ("after:c", "after:c"), ("after:a", "after:a"),
)


def starts_of(word):
    """What tells a word's sort: by it right words of another sort are chosen."""
    if word == "both" or word.startswith("up:"):
        return "layout"
    if word.startswith("x"):
        return "copies"
    return word.partition(":")[0]


class BadLineTest(unittest.TestCase):
    def refused(self, line, place):
        with self.subTest(line=line):
            with self.assertRaises(BadLine) as caught:
                read_job(line)
            self.assertEqual(caught.exception.place, place)
            self.assertIs(type(caught.exception.place), int)

    def refused_words(self, words, place):
        self.refused(" ".join(words), place)


class Head(BadLineTest):
    def test_a_wrong_name(self):
        for word in WRONG_NAMES:
            self.refused_words([word], 0)
            self.refused_words([word, "b"], 0)
            self.refused_words([word, "b", "5"], 0)
            self.refused_words([word, "b", "5", *RIGHT], 0)

    def test_a_wrong_asker(self):
        for word in WRONG_NAMES:
            self.refused_words(["a", word], 1)
            self.refused_words(["a", word, "5"], 1)
            self.refused_words(["a", word, "5", *RIGHT], 1)

    def test_wrong_pages(self):
        for word in WRONG_PAGES:
            self.refused_words(["a", "b", word], 2)
            self.refused_words(["a", "b", word, *RIGHT], 2)

    def test_too_few_words(self):
        self.refused("", 0)
        self.refused("a", 1)
        self.refused("letter", 1)
        self.refused("a b", 2)
        self.refused("letter anna", 2)
        self.refused("x2 both", 2)

    def test_the_first_wrong_word_is_told(self):
        self.refused("A B 0 zz", 0)
        self.refused("a B 0 zz", 1)
        self.refused("a b 0 zz", 2)
        self.refused("a b 5 zz yy", 3)
        self.refused("A", 0)
        self.refused("A b", 0)
        self.refused("a B", 1)
        self.refused("A B", 0)

    def test_words_of_the_head_in_another_order(self):
        self.refused("5 a b", 0)
        self.refused("a 5 b", 1)
        self.refused("a b x2 5", 2)
        self.refused("a b staple", 2)
        self.refused("a b 5 6", 3)


class WithoutSigns(BadLineTest):
    def test_blanks_alone(self):
        self.refused("", 0)
        self.refused(" ", 0)
        self.refused("   ", 0)

    def test_a_blank_at_the_begin(self):
        self.refused(" a", 0)
        self.refused(" a b 5", 0)
        self.refused(" a b 5 x2", 0)

    def test_a_blank_at_the_end(self):
        self.refused("a ", 1)
        self.refused("a b ", 2)
        self.refused("a b 5 ", 3)
        self.refused("a b 5 x2 ", 4)
        self.refused("a b 5 x2 staple ", 5)

    def test_two_blanks_side_by_side(self):
        self.refused("a  b 5 x2 staple", 1)
        self.refused("a b  5 x2 staple", 2)
        self.refused("a b 5  x2 staple", 3)
        self.refused("a b 5 x2  staple", 4)
        self.refused("a b 5 x2 staple  ", 5)


class Behind(BadLineTest):
    def test_each_wrong_word_alone(self):
        for word in WRONG_WORDS:
            self.refused_words(["a", "b", "5", word], 3)

    def test_each_wrong_word_at_each_place(self):
        for word in WRONG_WORDS:
            for place in range(len(RIGHT) + 1):
                words = ["a", "b", "5", *RIGHT[:place], word, *RIGHT[place:]]
                self.refused_words(words, 3 + place)

    def test_a_wrong_word_ahead_of_its_right_one(self):
        for wrong, right in (("x100", "x2"), ("up:17", "up:2"), ("one", "both"), ("colour:0-1", "colour:1-1"),
                             ("paper:A", "paper:a"), ("cover:A", "cover:a"), ("Staple", "staple"),
                             ("after:A", "after:a")):
            self.refused_words(["a", "b", "5", wrong, right], 3)
            self.refused_words(["a", "b", "5", right, wrong], 4)

    def test_two_wrong_words(self):
        for first, second in itertools.permutations(("x0", "up:1", "colour:2-6", "paper:", "staples", "after:A"), 2):
            self.refused_words(["a", "b", "5", "after:d", first, second], 4)
            self.refused_words(["a", "b", "5", first, "after:d", second], 3)

    def test_colour_by_the_pages_of_its_own_line(self):
        self.refused("a b 1 colour:1-2", 3)
        self.refused("a b 1 colour:2-2", 3)
        self.refused("a b 10 colour:1-11", 3)
        self.refused("a b 10 colour:10-9", 3)
        self.refused("a b 998 colour:1-999", 3)
        self.refused("a b 999 colour:1-1000", 3)
        self.refused("a b 999 colour:0-999", 3)
        self.refused("a b 999 colour:10-9", 3)
        self.refused("a b 999 colour:100-99", 3)

    def test_wrong_kinds_of_every_sign(self):
        for code in range(33, 127):
            sign = chr(code)
            if sign != chr(37) and not sign.islower() and not sign.isdigit():
                for start in ("paper:", "cover:", "after:"):
                    self.refused_words(["a", "b", "5", "x2", start + "a" + sign], 4)


class Seconds(BadLineTest):
    def test_a_second_of_its_sort_at_once(self):
        for first, second in SECONDS:
            self.refused_words(["a", "b", "5", first, second], 4)

    def test_a_second_of_its_sort_with_others_between_and_behind(self):
        for first, second in SECONDS:
            others = [word for word in RIGHT if starts_of(word) != starts_of(first)]
            for between in range(len(others) + 1):
                words = ["a", "b", "5", first, *others[:between], second, *others[between:]]
                self.refused_words(words, 4 + between)

    def test_a_second_with_others_ahead(self):
        for first, second in SECONDS:
            others = [word for word in RIGHT if starts_of(word) != starts_of(first)]
            self.refused_words(["a", "b", "5", *others, first, second], 4 + len(others))

    def test_a_third_is_not_told_ahead_of_the_second(self):
        self.refused("a b 5 x2 x3 x4", 4)
        self.refused("a b 5 staple staple staple", 4)
        self.refused("a b 5 after:c after:c after:c", 4)

    def test_a_second_ahead_of_another_wrong_word(self):
        self.refused("a b 5 both up:2 zz", 4)
        self.refused("a b 5 both zz up:2", 4)

    def test_a_name_told_after_twice_among_others(self):
        self.refused("a b 5 after:c after:d after:c", 5)
        self.refused("a b 5 after:c after:d after:e after:d", 6)
        self.refused("a b 5 after:a after:b x2 after:a", 6)
        self.refused("a b 5 after:c after:d after:d after:c", 5)


class Refusal(BadLineTest):
    def test_it_is_one_of_the_hall(self):
        with self.assertRaises(HallError):
            read_job("a b 0")
        with self.assertRaises(ValueError):
            read_job("a b 0")

    def test_what_is_refused_leaves_nothing(self):
        self.refused("a b 5 after:c staple x2 both colour:1-2 paper:d cover:e zz", 10)
        job = read_job("a b 5 after:c")
        self.assertEqual(job.after, ("c",))
        self.assertEqual((job.copies, job.layout, job.paper, job.cover), (1, "one", "plain", None))
        self.assertEqual((job.colour, job.staple), (None, False))

    def test_refused_again_alike(self):
        for line, place in (("a b 5 after:c after:c", 4), ("a b 5 zz", 3), ("a", 1)):
            self.refused(line, place)
            self.refused(line, place)


if __name__ == "__main__":
    unittest.main()
