"""Tables of costs: which of them are straight, and tables made of tables."""

from straightleast.checks import are_indexes, are_integers, check_number, is_tuple_sized
from straightleast.errors import BadIndexes, BadNumbers, BadSizes, BadSquare, BadTable, NotStraight

MOST_ROWS = 8
MOST_COLUMNS = 8
MOST_TIMES = 10 ** 9


def is_table(thing):
    """Whether thing is a tuple of one to eight rows of as many integers each."""
    if not is_tuple_sized(thing, 1, MOST_ROWS):
        return False
    if not is_tuple_sized(thing[0], 1, MOST_COLUMNS):
        return False
    width = len(thing[0])
    return all([are_integers(row, width) for row in thing])


def check_table(thing):
    """Raise BadTable for what is no table."""
    if not is_table(thing):
        raise BadTable("a table is a tuple of one to eight tuples of as many integers, one to eight")


def check_straight(thing):
    """Raise BadTable for what is no table, NotStraight for one in which a crossing pays."""
    if not is_straight(thing):
        raise NotStraight("in the table some crossing costs less than the straight pairing")


def check_square(thing, fewest=1):
    """Raise BadTable for what is no table, BadSquare for one that is not square or has fewer places."""
    check_table(thing)
    if len(thing) != len(thing[0]) or len(thing) < fewest:
        raise BadSquare("the table has as many columns as rows, and as many places as are wanted")


def check_straight_square(thing, fewest=1):
    """Raise BadTable, BadSquare or NotStraight, in this sequence, for what is no straight square table."""
    check_square(thing, fewest)
    check_straight(thing)


def is_straight(table):
    """Whether no crossing of two rows and two columns of the table pays."""
    # If none pays between neighbours, none pays at all: the gain of any
    # crossing is the sum of those of the neighbours that it spans.
    return first_crossing(table) is None


def first_crossing(table):
    """The first (i, j) at which a crossing of neighbours pays, or None."""
    check_table(table)
    for row in range(len(table) - 1):
        for column in range(len(table[0]) - 1):
            if crossing_gain(table, row, row + 1, column, column + 1) < 0:
                return (row, column)
    return None


def count_crossings(table):
    """How many crossings of two rows and two columns of the table pay."""
    check_table(table)
    height = len(table)
    width = len(table[0])
    return len([
        row
        for row in range(height)
        for other in range(row + 1, height)
        for column in range(width)
        for last in range(column + 1, width)
        if crossing_gain(table, row, other, column, last) < 0
    ])


def crossing_gain(table, row, other, column, last):
    """The crossing sum of these two rows and columns less the straight one."""
    straight = table[row][column] + table[other][last]
    crossing = table[row][last] + table[other][column]
    return crossing - straight


def lifted(table, rows, columns):
    """The table with a number added to each row and one to each column."""
    check_table(table)
    check_numbers(rows, len(table))
    check_numbers(columns, len(table[0]))
    return tuple([
        tuple([entry + up + over for entry, over in zip(row, columns)])
        for row, up in zip(table, rows)
    ])


def check_numbers(thing, count):
    """Raise BadNumbers for what is no tuple of just so many integers."""
    if not are_integers(thing, count):
        raise BadNumbers("the numbers are a tuple of one integer for each row, or for each column")


def added(table, other):
    """The table of the sums of two tables of the same size."""
    check_table(table)
    check_table(other)
    if len(table) != len(other) or len(table[0]) != len(other[0]):
        raise BadSizes("the second table has as many rows and columns as the first one")
    return tuple([
        tuple([one + two for one, two in zip(row, beside)])
        for row, beside in zip(table, other)
    ])


def scaled(table, times):
    """The table with all entries multiplied."""
    check_table(table)
    check_number(times, 0, MOST_TIMES)
    return tuple([tuple([entry * times for entry in row]) for row in table])


def turned(table):
    """The table with its columns as rows."""
    check_table(table)
    return tuple(zip(*table))


def thinned(table, rows, columns):
    """The table of some rows and columns alone."""
    check_table(table)
    check_indexes(rows, len(table))
    check_indexes(columns, len(table[0]))
    return tuple([tuple([table[row][column] for column in columns]) for row in rows])


def check_indexes(thing, count):
    """Raise BadIndexes for what is no ascending tuple of indexes below count."""
    if not are_indexes(thing, count):
        raise BadIndexes("the indexes are an ascending tuple of one or more rows, or columns")


def mirrored(table):
    """The table with its rows from the last to the first."""
    check_table(table)
    return table[::-1]


def is_crooked(table):
    """Whether the mirrored table is straight."""
    return is_straight(mirrored(table))


def reduced(table):
    """(table, rows, columns): the leasts of the rows, then of the columns, taken from it."""
    check_table(table)
    rows = tuple([min(row) for row in table])
    left = [[entry - least for entry in row] for row, least in zip(table, rows)]
    columns = tuple([min(column) for column in zip(*left)])
    rest = tuple([
        tuple([entry - least for entry, least in zip(row, columns)])
        for row in left
    ])
    return (rest, rows, columns)
