"""Rows, words, and the names and figures among the words."""

NO_NAMES = ("any", "other", "where")


def rows_in(text):
    """The rows of a text; the empty text has none."""
    if text == "":
        return []
    return text.split("\n")


def words_in(row):
    """The words of a row; the empty row has none, and blanks too many make empty words."""
    if row == "":
        return []
    return row.split(" ")


def consists_of(word, low, high, most):
    """Whether a word has one to `most` signs, all of them from low to high."""
    return 1 <= len(word) <= most and all([low <= sign <= high for sign in word])


def is_name(word):
    """Whether a word is the name of a node."""
    return consists_of(word, "a", "z", 8) and word not in NO_NAMES


def is_kind_name(word):
    """Whether a word is a kind name."""
    return consists_of(word, "A", "Z", 4)


def is_figure(word):
    """Whether a word is a figure: no leading zero, but `0` itself."""
    return consists_of(word, "0", "9", 12) and (word == "0" or not word.startswith("0"))
