"""Rows of letters, compared as a whole, for all stretches of them, and by strands."""

from straightleast.checks import check_index, check_number
from straightleast.errors import BadSizes, BadText
from straightleast.strands import MOST_STRANDS, check_strands, ends_of, joined

LETTERS = "abcdefghijklmnopqrstuvwxyz"
MOST_LETTERS = 6


def check_text(thing):
    """Raise BadText for what is no str of at most six letters."""
    if not is_text(thing):
        raise BadText("a text is a str of at most six letters from a to z")


def is_text(thing):
    """Whether thing is a str of at most six letters from a to z."""
    if not isinstance(thing, str) or len(thing) > MOST_LETTERS:
        return False
    return all([sign in LETTERS for sign in thing])


def check_texts(text, other):
    """Raise BadText if one of these is no text."""
    check_text(text)
    check_text(other)


def shared(text, other):
    """The greatest length of a row of letters that comes of both by leaving letters out."""
    return len(shared_text(text, other))


def shared_text(text, other):
    """The first text of that length."""
    check_texts(text, other)
    return common(text, other)


def common(text, other):
    """The first of the longest rows of letters that come of both."""
    # From the last letters on: what is common to the letters behind each
    # place of the one and each place of the other.
    below = [""] * (len(other) + 1)
    for letter in reversed(text):
        row = [""]
        for at in reversed(range(len(other))):
            choices = [row[0], below[at]]
            if other[at] == letter:
                choices.append(letter + below[at + 1])
            row.insert(0, first_longest(choices))
        below = row
    return below[0]


def first_longest(choices):
    """The longest of these texts, the first of several as texts compare."""
    most = max([len(choice) for choice in choices])
    return min([choice for choice in choices if len(choice) == most])


def edits(text, other):
    """How many letters at least are left out and put in to make the second of the first."""
    check_texts(text, other)
    return len(text) + len(other) - 2 * len(common(text, other))


def letter_strands(text, other):
    """The strands of two texts, of the first one's letters ahead of those of the second one's."""
    check_texts(text, other)
    if len(text) + len(other) == 0:
        raise BadText("one of the two texts has a letter")
    down = list(range(len(text), len(text) + len(other)))
    behind = []
    for at, letter in enumerate(text):
        along, down = gone_along(len(text) - 1 - at, letter, down, other)
        behind.insert(0, along)
    return ends_of(down + behind)


def gone_along(along, letter, down, other):
    """(along, down): which strands go on when that of a letter has met those that come down."""
    found = []
    for strand, beside in zip(down, other):
        # Two that have not crossed yet meet the way round they began, the
        # lesser one coming along.
        if letter != beside and along < strand:
            found.append(strand)
        else:
            found.append(along)
            along = strand
    return (along, found)


def shared_window(text, other, start, end):
    """The greatest shared length of the first text and the second one from start to below end."""
    check_texts(text, other)
    check_index(start, 0, len(other))
    check_index(end, start, len(other))
    return len(common(text, other[start:end]))


def window_table(text, other):
    """For each start the list, for each end from it on, of the shared length of this stretch."""
    check_texts(text, other)
    return [
        [len(common(text, other[start:end])) for end in range(start, len(other) + 1)]
        for start in range(len(other) + 1)
    ]


def windows(text, other, count):
    """The shared lengths of the first text and each stretch of so many letters of the second."""
    check_texts(text, other)
    check_number(count, 1, len(other))
    return [
        len(common(text, other[start:start + count]))
        for start in range(len(other) - count + 1)
    ]


def below_letters(strands, other, first, second, letters):
    """The strands of the first text with the second behind it, and a third, made of those of each and it."""
    check_strands(strands)
    check_strands(other)
    for count in (first, second, letters):
        check_number(count, 0, MOST_LETTERS)
    if len(strands) != first + letters or len(other) != second + letters or first + second + letters > MOST_STRANDS:
        raise BadSizes("strands are as many as the letters of both texts, and all three have at most twelve")
    ahead = tuple(range(second)) + tuple([second + end for end in strands])
    behind = other + tuple(range(len(other), len(other) + first))
    return joined(ahead, behind)
