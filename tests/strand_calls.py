"""Calls of the functions of orders, strands and letters, as those in calls.py."""

from straightleast import letters, orders, strands
from straightleast.errors import BadCounts, BadOrder, BadSizes, BadStrands, BadText, BadWord, TooMany

from tests.calls import arg, call, index, number, table
from tests.samples import FAR

SEVEN_ROWS = ((0,),) * 7
SEVEN_COLUMNS = ((0,) * 7,)
SIX_ROWS = ((0,),) * 6
SIX_COLUMNS = ((0,) * 6,)
NO_ORDER = ((0, 0, 0), (0, 0, 1), (0, 1, 1))

COUNTS = ((0, 1, 2, 3), (0, 0, 1, 2), (0, 0, 1, 1), (0, 0, 0, 0))


def ordered(right, *more):
    """A sequence of all rows or columns."""
    faults = [(BadOrder, right[:-1]), (BadOrder, right + (0,)), (BadOrder, right[:-1] + (FAR,))]
    return arg(right, BadOrder, *faults, *more)


def few(right, *too_great):
    """A table that is looked through whole, and some that are not."""
    parts = table(right)
    return (parts[0], parts[1] + [(TooMany, great) for great in too_great])


def row_of(right, *more):
    """Strands: the first fault of others, and what else is wrong here."""
    faults = [(BadStrands, ()), (BadStrands, tuple(range(13))), (BadStrands, right[:-1] + (right[0],))]
    return arg(right, BadStrands, *faults, (BadStrands, right[:-1] + (FAR,)), *more)


def second(right):
    return row_of(right, (BadSizes, (0,)), (BadSizes, right + (len(right),)))


def word(right, most):
    faults = [(BadWord, (0,) * 41), (BadWord, (most + 1,)), (BadWord, (-1,)), (BadWord, right + (FAR,))]
    return arg(right, BadWord, *faults)


def text(right, *more):
    """A text of letters. The empty one is right too, so that it is not among the wrong ones."""
    wrong = [None, True, False, 0, 1, [], (), {}, [right], (right,), {right: right}, list(right), right.encode()]
    wrong += ["abcdefg", "A", "a ", " ", "a\n", "\t", "0", "-", "a" * 10 ** 6, FAR]
    return (right, [(BadText, one) for one in wrong] + list(more))


STAGE_4 = [
    call(
        orders.is_order_for, True, table=table(((0, 1, 0), (1, 0, 0))), rows=ordered((1, 0)),
        columns=ordered((1, 2, 0)),
    ),
    call(
        orders.reordered, ((0, 0, 1), (1, 0, 0)), table=table(((0, 1, 0), (1, 0, 0))), rows=ordered((1, 0)),
        columns=ordered((1, 2, 0)),
    ),
    call(
        orders.first_order, ((0, 1), (0, 2, 1)),
        table=few(((0, 1, 0), (1, 0, 0)), SEVEN_ROWS, SEVEN_COLUMNS),
    ),
    call(
        orders.all_orders, [((0, 1), (0, 2, 1)), ((1, 0), (1, 2, 0))],
        table=few(((0, 1, 0), (1, 0, 0)), SIX_ROWS, SIX_COLUMNS),
    ),
    call(orders.like_rows, [(0, 2), (1,)], table=table(((4, 1, 7), (2, 2, 0), (3, 0, 6)))),
    call(orders.like_columns, [(0, 1), (2,)], table=table(((4, 1, 7), (2, -1, 0)))),
    call(orders.no_order, ((0, 1, 2), (0, 1, 2)), table=few(NO_ORDER, SIX_ROWS, SIX_COLUMNS)),
    call(strands.count_meetings, 2, strands=row_of((2, 0, 1))),
    call(strands.counts_table, COUNTS, strands=row_of((0, 2, 1))),
    call(
        strands.strands_of, (0, 2, 1),
        counts=arg(COUNTS, BadCounts, (BadCounts, COUNTS[:-1]), (BadCounts, COUNTS + (COUNTS[-1],))),
    ),
    call(strands.joined, (2, 0, 1), strands=row_of((1, 0, 2)), other=second((0, 2, 1))),
    call(strands.joined_times, (2, 1, 0), strands=row_of((2, 0, 1)), count=number(2, 1, 10 ** 18)),
    call(strands.is_idle, True, strands=row_of((1, 0, 2))),
    call(strands.combed, (2, 0, 1), count=number(3, 1, 12), word=word((0, 1), 1)),
    call(strands.word_of, (0, 1), strands=row_of((2, 0, 1))),
    call(strands.count_words, 2, strands=row_of((2, 1, 0), (TooMany, tuple(range(9))))),
    call(
        strands.same_combed, True, count=number(3, 1, 12), word=word((0, 1, 0), 1), other=word((1, 0, 1), 1),
    ),
    call(strands.is_below, True, strands=row_of((1, 0, 2)), other=second((2, 0, 1))),
    call(strands.covered, [(0, 2, 1), (1, 0, 2)], strands=row_of((2, 0, 1))),
    call(strands.rest_of, (0, 2, 1), strands=row_of((1, 0, 2)), other=second((2, 0, 1))),
    call(letters.shared, 2, text=text("abc"), other=text("bac")),
    call(letters.shared_text, "ac", text=text("abc"), other=text("bac")),
    call(letters.edits, 2, text=text("abc"), other=text("bac")),
    call(letters.letter_strands, (0, 2, 1), text=text("ab"), other=text("b")),
    call(
        letters.shared_window, 1, text=text("ab"), other=text("ba"), start=index(0, 0, 2), end=index(1, 0, 2),
    ),
    call(letters.window_table, [[0, 1, 1], [0, 1], [0]], text=text("ab"), other=text("ba")),
    call(letters.windows, [1, 1], text=text("ab"), other=text("ba"), count=number(1, 1, 2)),
    call(
        letters.below_letters, (1, 2, 0), strands=row_of((1, 0)), other=row_of((1, 0)), first=number(1, 0, 6),
        second=number(1, 0, 6), letters=(1, number(1, 0, 6)[1] + [(BadSizes, 0), (BadSizes, 2), (BadSizes, 6)]),
    ),
]
