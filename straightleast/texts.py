"""Tables as texts, and texts as tables."""

from straightleast.errors import BadRows
from straightleast.tables import MOST_COLUMNS, MOST_ROWS, check_table

MOST_DIGITS = 30
DIGITS = "0123456789"


def write_table(table):
    """The text of a table: a line for each row, its integers between blanks."""
    check_table(table)
    return "\n".join([" ".join([str(entry) for entry in row]) for row in table])


def read_table(text):
    """The table of which the text is what write_table returns."""
    if not isinstance(text, str):
        raise BadRows(0, 0)
    rows = []
    width = MOST_COLUMNS
    for at, line in enumerate(text.split("\n")):
        if at == MOST_ROWS:
            raise BadRows(at, 0)
        words = line.split(" ")
        check_words(at, words, width)
        if at == 0:
            width = len(words)
        if len(words) < width:
            raise BadRows(at, len(words))
        rows.append(tuple([int(word) for word in words]))
    return tuple(rows)


def check_words(row, words, most):
    """Raise BadRows at the first word that is wrong, or is one more than may be."""
    for at, word in enumerate(words):
        if at == most or not is_written_integer(word, MOST_DIGITS):
            raise BadRows(row, at)


def is_written_integer(word, most):
    """Whether the word is an integer of at most so many digits as write_table writes it."""
    return is_written_number(word.removeprefix("-"), most) and word != "-0"


def is_written_number(word, most):
    """Whether the word is one to so many digits, without a 0 ahead but for 0 itself."""
    # The length is asked first: a word may be as long as the whole text.
    if not 1 <= len(word) <= most:
        return False
    if not all([sign in DIGITS for sign in word]):
        return False
    return word[0] != "0" or word == "0"
