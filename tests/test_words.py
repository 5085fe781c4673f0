"""The words of a line, names, numbers and layouts (points 4 and 5)."""

import unittest

from spoolhall.words import is_layout, is_name, number_in, words_of

LETTERS = "abcdefghijklmnopqrstuvwxyz"
FIGURES = "0123456789"
# All signs that a text may have (point 2).
SIGNS = [chr(code) for code in range(32, 127) if chr(code) != chr(37)]
GREATEST = 999999999


class WordsOf(unittest.TestCase):
    def check(self, line, words):
        with self.subTest(line=line):
            told = words_of(line)
            self.assertIs(type(told), list)
            self.assertEqual(told, words)

    def test_words_stand_between_blanks(self):
        self.check("a", ["a"])
        self.check("a b", ["a", "b"])
        self.check("letter anna 12 x2 up:4", ["letter", "anna", "12", "x2", "up:4"])
        self.check("start p1", ["start", "p1"])

    def test_two_blanks_side_by_side_have_a_word_between(self):
        self.check("a  b", ["a", "", "b"])
        self.check("a   b", ["a", "", "", "b"])
        self.check("a  b  c", ["a", "", "b", "", "c"])

    def test_a_blank_at_an_end_has_a_word_there(self):
        self.check(" a", ["", "a"])
        self.check("a ", ["a", ""])
        self.check(" a ", ["", "a", ""])
        self.check("  a  ", ["", "", "a", "", ""])

    def test_blanks_alone(self):
        self.check(" ", ["", ""])
        self.check("  ", ["", "", ""])

    def test_the_line_without_signs_is_one_word(self):
        self.check("", [""])

    def test_no_other_sign_parts_words_or_is_lost(self):
        for sign in SIGNS:
            if sign != " ":
                self.check("a" + sign + "b", ["a" + sign + "b"])
                self.check(sign, [sign])
                self.check(sign + " " + sign, [sign, sign])

    def test_great_letters_stay(self):
        self.check("Anna BERT", ["Anna", "BERT"])

    def test_a_long_line(self):
        self.check("a " * 199 + "a", ["a"] * 200)
        self.check(" " * 400, [""] * 401)

    def test_each_list_is_the_askers_own(self):
        for line in ("", "a", "a b", " a  b "):
            first = words_of(line)
            kept = list(first)
            first[0] = "changed"
            first.append("more")
            second = words_of(line)
            self.assertEqual(second, kept)
            second.clear()
            self.assertEqual(words_of(line), kept)
            self.assertEqual(first, ["changed"] + kept[1:] + ["more"])


class IsName(unittest.TestCase):
    def check(self, word, wanted):
        with self.subTest(word=word):
            self.assertIs(is_name(word), wanted)

    def test_one_to_twelve_signs(self):
        for many in range(1, 13):
            self.check("a" * many, True)
            self.check("abcdefghij12"[:many], True)
        for many in (13, 14, 24, 400):
            self.check("a" * many, False)

    def test_no_signs(self):
        self.check("", False)

    def test_the_first_is_a_letter(self):
        for sign in SIGNS:
            for rest in ("", "a", "1", "abcdefghijk"):
                self.check(sign + rest, sign in LETTERS)

    def test_the_others_are_letters_or_figures(self):
        for sign in SIGNS:
            for place in range(1, 12):
                word = "abcdefghijkl"
                self.check(word[:place] + sign + word[place + 1:], sign in LETTERS + FIGURES)
                self.check(word[:place] + sign, sign in LETTERS + FIGURES)

    def test_figures_may_be_all_but_the_first(self):
        self.check("a00000000000", True)
        self.check("a000000000000", False)
        self.check("x2", True)
        self.check("000000000000", False)

    def test_names_like_other_words(self):
        for word in ("one", "both", "staple", "plain", "x1", "up", "after", "colour", "none", "true"):
            self.check(word, True)
        for word in ("up:2", "paper:a", "after:", "a-b", "a_b", "a.b", "a b"):
            self.check(word, False)


class NumberIn(unittest.TestCase):
    def check(self, word, wanted, least=0, most=GREATEST):
        with self.subTest(word=word, least=least, most=most):
            told = number_in(word, least, most)
            self.assertEqual(told, wanted)
            self.assertIs(type(told), type(wanted))

    def test_every_small_number(self):
        for number in range(1200):
            self.check(str(number), number)

    def test_one_to_nine_figures(self):
        for word in ("1", "12", "123", "1234", "12345", "123456", "1234567", "12345678", "123456789"):
            self.check(word, int(word))
            self.check(word, int(word), -10 ** 59, 10 ** 59)
        self.check("100000000", 100000000)
        self.check("999999999", 999999999)

    def test_ten_figures_and_more_are_none(self):
        for word in ("1000000000", "1234567890", "9999999999", "1" * 60, "1" * 400):
            self.check(word, None, 0, 10 ** 59)

    def test_nought(self):
        self.check("0", 0)
        self.check("0", 0, 0, 0)
        self.check("0", 0, -1, 1)
        self.check("0", None, 1, 9)

    def test_noughts_ahead_are_none(self):
        for word in ("00", "01", "09", "000", "001", "010", "0123", "000000000", "000000001", "0000000001"):
            self.check(word, None)

    def test_noughts_within_and_behind(self):
        for word in ("10", "101", "100", "9000", "10203"):
            self.check(word, int(word))

    def test_other_signs(self):
        for sign in SIGNS:
            if sign not in FIGURES:
                for word in (sign, sign + "1", "1" + sign, "1" + sign + "1", "0" + sign, sign + "0"):
                    self.check(word, None, -10 ** 9, 10 ** 9)

    def test_no_signs(self):
        self.check("", None)
        self.check("", None, 0, 0)

    def test_forms_that_other_readers_take(self):
        for word in ("+1", "-1", "-0", "1_0", " 1", "1 ", "1.0", "1e3", "0x1", "0b1", "one", "None"):
            self.check(word, None, -10 ** 9, 10 ** 9)

    def test_the_lower_bound(self):
        for least in (1, 2, 9, 10, 100, 999999998):
            self.check(str(least - 1), None, least, GREATEST)
            self.check(str(least), least, least, GREATEST)
            self.check(str(least + 1), least + 1, least, GREATEST)

    def test_the_upper_bound(self):
        for most in (1, 2, 9, 10, 99, 100, 999, 999999998):
            self.check(str(most - 1), most - 1, 0, most)
            self.check(str(most), most, 0, most)
            self.check(str(most + 1), None, 0, most)

    def test_one_number_alone(self):
        self.check("6", None, 7, 7)
        self.check("7", 7, 7, 7)
        self.check("8", None, 7, 7)

    def test_bounds_between_which_nothing_is(self):
        for word in ("0", "4", "5", "6", "7"):
            self.check(word, None, 6, 5)

    def test_bounds_below_nought_and_great_ones(self):
        self.check("0", None, -5, -1)
        self.check("1", None, 10 ** 59, 10 ** 59)
        self.check("999999999", 999999999, -10 ** 59, 10 ** 59)


class IsLayout(unittest.TestCase):
    def check(self, word, wanted):
        with self.subTest(word=word):
            self.assertIs(is_layout(word), wanted)

    def test_both(self):
        self.check("both", True)

    def test_up_from_two_to_sixteen(self):
        for many in range(40):
            self.check("up:" + str(many), 2 <= many <= 16)
        for many in (99, 100, 160, 999999999, 1000000000):
            self.check("up:" + str(many), False)

    def test_one_is_none(self):
        self.check("one", False)

    def test_other_words(self):
        for word in ("", "up", "up:", "up2", "up-2", "up:02", "up:002", "up:+2", "up:-2", "up:2:", "up:2:3", "up:a",
                     "up:2 ", " up:2", "up: 2", "UP:2", "Up:2", "Both", "BOTH", "both:", "both:2", "bothx", "bot",
                     "both ", " both", "x2", "2", ":2", "staple", "plain", "paper:both", "up:one", "up:both"):
            self.check(word, False)


if __name__ == "__main__":
    unittest.main()
