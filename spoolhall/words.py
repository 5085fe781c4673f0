"""The words of a line: names, numbers and layouts."""

LETTERS = "abcdefghijklmnopqrstuvwxyz"
FIGURES = "0123456789"
NAME_MOST = 12
NUMBER_MOST = 9
UP = "up:"
UP_LEAST = 2
UP_MOST = 16


def words_of(line):
    """What stands between the line's blanks, words without signs, too."""
    return line.split(" ")


def made_of(word, signs):
    """Whether each sign of the word is one of these."""
    return all([sign in signs for sign in word])


def is_name(word):
    """Whether the word is a name: small letters and figures, a letter first."""
    if not 1 <= len(word) <= NAME_MOST:
        return False
    return word[0] in LETTERS and made_of(word, LETTERS + FIGURES)


def is_number(word):
    """Whether the word writes a number, by figures without noughts ahead."""
    # int() by itself would take signs, blanks and underlines, too.
    if not 1 <= len(word) <= NUMBER_MOST or not made_of(word, FIGURES):
        return False
    return word == "0" or word[0] != "0"


def number_in(word, least, most):
    """The number that the word writes, if it is from least to most, else None."""
    if not is_number(word):
        return None
    number = int(word)
    return number if least <= number <= most else None


def is_layout(word):
    """Whether the word tells a layout; `one` is never told, so it is no such word."""
    if word == "both":
        return True
    return word.startswith(UP) and number_in(word[len(UP):], UP_LEAST, UP_MOST) is not None
