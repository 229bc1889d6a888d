"""What several tests use: tables, wrong objects, a watch, and a test that tells kinds apart."""

import contextlib
import faulthandler
import itertools
import random
import unittest

Q = ((0, 1, 4, 9), (1, 0, 1, 4), (4, 1, 0, 1), (9, 4, 1, 0))

# The greatest integers for which the document promises anything in tables.
GREAT = 10 ** 30 - 1

# An integer of a hundred digits, which no bound of the document reaches.
FAR = 10 ** 100

SIZES = [(height, width) for height in range(1, 9) for width in range(1, 9)]


def chance(seed):
    """A source of numbers that are the same in every run."""
    return random.Random(seed)


def any_table(source, height, width, bound=9):
    return tuple(
        tuple(source.randint(-bound, bound) for _ in range(width)) for _ in range(height)
    )


def straight_table(source, height, width, bound=9):
    """Made of gains from 0 on, without any function of the package."""
    gains = [[source.choice((0, 0, 1, bound)) for _ in range(width)] for _ in range(height)]
    rows = [source.randint(-bound, bound) for _ in range(height)]
    columns = [source.randint(-bound, bound) for _ in range(width)]
    return tuple(
        tuple(
            rows[i] + columns[j] - sum(gains[a][b] for a in range(i) for b in range(j))
            for j in range(width)
        )
        for i in range(height)
    )


def with_entry(table, row, column, entry):
    rows = [list(line) for line in table]
    rows[row][column] = entry
    return tuple(tuple(line) for line in rows)


def small_tables():
    """All tables of few rows, columns and entries."""
    for height, width, entries in ((1, 3, 3), (3, 1, 3), (2, 2, 4), (2, 3, 2), (3, 2, 2), (3, 3, 2)):
        for flat in itertools.product(range(entries), repeat=height * width):
            yield tuple(flat[i * width:(i + 1) * width] for i in range(height))


def tables_of_all_sizes(seed):
    """For each size a table of any kind, a straight one and one nearly straight."""
    source = chance(seed)
    for height, width in SIZES:
        yield any_table(source, height, width)
        straight = straight_table(source, height, width)
        yield straight
        row = source.randrange(height)
        column = source.randrange(width)
        yield with_entry(straight, row, column, straight[row][column] + source.choice((-1, 1)))
        yield straight_table(source, height, width, 10 ** 27)
        yield any_table(source, height, width, GREAT)


def sample_tables(seed):
    return list(small_tables()) + list(tables_of_all_sizes(seed))


def straight_by_all_pairs(table):
    """Straight by the words of the document, over all pairs of rows and columns."""
    return not paying_crossings(table)


def paying_crossings(table):
    return [
        (i, k, j, last)
        for i, k in itertools.combinations(range(len(table)), 2)
        for j, last in itertools.combinations(range(len(table[0])), 2)
        if table[i][j] + table[k][last] > table[i][last] + table[k][j]
    ]


def doubled(part, kind, depth=50):
    """Nested as deep as told, both parts of each level one and the same object."""
    thing = part
    for _ in range(depth):
        thing = kind((thing, thing))
    return thing


def doubled_dict(depth=50):
    thing = {}
    for _ in range(depth):
        thing = {"a": thing, "b": thing}
    return thing


def odd_objects():
    """Objects that are neither a number, nor a text, nor a tuple of numbers."""
    return [
        True, False, None, "", "0", "0 1", "0 1\n1 0", {}, {0: 0}, {"a": ((0, 1),)},
        [], [0], [[0]], [(0,)], ([0],), [[0, 1], [1, 0]], [(0, 1), (1, 0)], ([0, 1], [1, 0]),
        ((0, 1), [1, 0]), ([0, 1], (1, 0)), b"", b"0", {0, 1}, frozenset((0,)), range(2), len,
        (None,), ("",), ("0",), ((),), ((), ()), (((0,),),), ({},), ({0: 1},), ((None,),),
    ]


def deep_objects():
    """Wrong objects that are to be answered soon."""
    return [
        doubled((), tuple), doubled((0,), tuple), doubled(0, tuple), doubled(None, tuple),
        doubled([], list), doubled([0], list), doubled("0", tuple), doubled_dict(),
        (doubled((), tuple),), ((doubled((), tuple),),), (doubled([], list),) * 2,
        ((0, doubled_dict()), (0, 1)), tuple([((),) * 10 ** 5] * 10 ** 5),
        [0] * 10 ** 6, (0,) * 10 ** 6, ((0,) * 10 ** 6,), "0 " * 10 ** 6, "9" * 10 ** 6,
    ]


def wrong_tables():
    """Objects that are no tables."""
    row = (0, 1, 2)
    wrong = odd_objects() + deep_objects()
    wrong += [0, 1, -1, GREAT, 10 ** 100, (), (0,), (0, 1), row]
    wrong += [((),) * 3, (row, ()), ((), row), (row, row[:2]), (row[:2], row), (row, row, row + (3,))]
    wrong += [(row,) * 9, ((0,),) * 9, ((),) * 9, (tuple(range(9)),), (tuple(range(9)),) * 8]
    wrong += [(tuple(range(8)),) * 7 + (tuple(range(9)),), (tuple(range(8)),) * 9]
    for entry in (True, False, None, "1", "", (), (1,), [], [1], {}, b"1"):
        wrong += [((entry,),), ((0, entry),), ((entry, 0),), (row, (0, entry, 2)), ((0, 1, entry), row)]
        wrong.append(((0,) * 8,) * 7 + ((0,) * 7 + (entry,),))
    for line in (True, None, 0, "012", [0, 1, 2], {0: 0, 1: 1, 2: 2}, b"012", {0, 1, 2}, range(3)):
        wrong += [(row, line), (line, row), (row, row, line), (line,)]
    return wrong


def wrong_numbers(count):
    """Objects that are no tuples of so many integers."""
    right = tuple(range(count))
    wrong = odd_objects() + deep_objects() + [0, count, GREAT]
    wrong = [thing for thing in wrong if not (isinstance(thing, tuple) and thing == right)]
    wrong += [(), right[1:], right + (0,), right * 2, list(right), [list(right)], (right,), set(right)]
    wrong += [dict.fromkeys(right, 0), "0" * count, range(count), (0,) * 9]
    for entry in (True, False, None, "1", "", (), (1,), [], [1], {}, b"1"):
        wrong += [right[:-1] + (entry,), (entry,) + right[1:], (entry,) * count]
    return wrong


def wrong_indexes(count):
    """Objects that are no ascending tuples of indexes below count."""
    wrong = odd_objects() + deep_objects() + [0, 1, count, GREAT, ()]
    wrong += [(count,), (-1,), (-count,), (0, count), (-1, 0), (GREAT,), (-GREAT,), (0, GREAT)]
    wrong += [(0, 0), (count - 1, count - 1), tuple(range(count)) + (count - 1,), tuple(range(count + 1))]
    wrong += [tuple(range(-1, count)), list(range(count)), [0], range(count), {0}, {0: 0}]
    wrong += [(True,), (False,), (None,), ("0",), ((0,),), ([0],), (0, True), (False, 1), (0, None), (0, "1")]
    if count > 1:
        wrong += [(1, 0), (0, 1, 0), (0, 1, 1), (count - 1, 0), tuple(reversed(range(count)))]
    if count > 2:
        wrong += [(0, 2, 1), (1, 0, 2), (0, 2, 2), (0, 0, 2), (0, 1, True), (False, 1, 2)]
    return wrong


def wrong_integers():
    """Objects that are no integers."""
    return odd_objects() + deep_objects() + [(0,), (1,), [1], {1: 1}, "1", "-1", b"1", (True,)]


def wrong_integers_within(low, high):
    """Objects that are no integers from low to high."""
    beyond = [low - 1, low - 2, high + 1, high + 2, 2 ** 64, -2 ** 64, GREAT, -GREAT, 10 ** 100, -10 ** 100]
    return wrong_integers() + [number for number in beyond if not low <= number <= high]


def tables_that_are_not_straight():
    """Small and great ones, among them such as are wrong by one crossing alone."""
    source = chance(100)
    found = [((0, 0), (0, 1)), ((0, 1, 1), (1, 0, 5)), with_entry(((0,) * 8,) * 8, 7, 7, 1), Q[::-1]]
    while len(found) < 40:
        table = any_table(source, source.randint(2, 8), source.randint(2, 8))
        if not straight_by_all_pairs(table):
            found.append(table)
    return found


def tables_that_are_not_square():
    """Straight ones and others, of every size but the square ones."""
    source = chance(101)
    sizes = [(height, width) for height, width in SIZES if height != width]
    return [any_table(source, *size) for size in sizes] + [straight_table(source, *size) for size in sizes]


def square_tables(seed, most=8, fewest=1):
    """Straight ones, nearly straight ones and others, several of each size."""
    source = chance(seed)
    found = []
    for count in range(fewest, most + 1):
        for _ in range(3):
            straight = straight_table(source, count, count)
            row, column = source.randrange(count), source.randrange(count)
            found += [straight, straight_table(source, count, count, 2), any_table(source, count, count, 2)]
            found += [any_table(source, count, count), any_table(source, count, count, 10 ** 27)]
            found.append(with_entry(straight, row, column, straight[row][column] + source.choice((-1, 1))))
        found.append(((7,) * count,) * count)
    return found


def straight_squares(seed, most=8, fewest=1):
    return [table for table in square_tables(seed, most, fewest) if straight_by_all_pairs(table)]


@contextlib.contextmanager
def soon(seconds=60):
    """End the run with an error if what stands below takes longer."""
    faulthandler.dump_traceback_later(seconds, exit=True)
    try:
        yield
    finally:
        faulthandler.cancel_dump_traceback_later()


def kinds(value):
    """The value with each part's own class told, so that 1 and True differ."""
    if isinstance(value, (tuple, list)):
        return (type(value), [kinds(part) for part in value])
    return (type(value), value)


def spoiled(value):
    """The value with one part, or the whole, exchanged for an object of another kind."""
    if isinstance(value, (tuple, list)):
        other = list if isinstance(value, tuple) else tuple
        found = [other(value), None, True, "", {}, dict(enumerate(value)), str(value), len(value)]
        for at, part in enumerate(value):
            for wrong in spoiled(part):
                found.append(type(value)((*value[:at], wrong, *value[at + 1:])))
        return found
    return [True, False, None, str(value), "", {}, {value: value}, (value,), [value], (), []]


def lists_in(value):
    """All lists in the value, the value too, each as often as it stands there."""
    if not isinstance(value, (tuple, list)):
        return []
    found = [value] if isinstance(value, list) else []
    for part in value:
        found += lists_in(part)
    return found


class SameTest(unittest.TestCase):
    def same(self, found, wanted):
        """Alike, and of the same kinds at every depth."""
        self.assertEqual(kinds(found), kinds(wanted))
