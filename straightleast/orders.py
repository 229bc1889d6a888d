"""Sequences of rows and columns in which a table is straight, and rows that are like."""

from itertools import combinations, permutations

from straightleast.checks import is_sequence_of_all
from straightleast.errors import BadOrder, TooMany
from straightleast.tables import check_table, is_straight

MOST_TO_ORDER = 6
MOST_TO_TRY = 5


def is_order_for(table, rows, columns):
    """Whether the table is straight with its rows and columns in these sequences."""
    return is_straight(reordered(table, rows, columns))


def reordered(table, rows, columns):
    """The table with its rows and columns in these sequences."""
    check_table(table)
    check_order(rows, len(table))
    check_order(columns, len(table[0]))
    return part_of(table, rows, columns)


def check_order(thing, count):
    """Raise BadOrder for what is no tuple of all indexes below count."""
    if not is_sequence_of_all(thing, count):
        raise BadOrder("an order is a tuple of all rows, or of all columns, in some sequence")


def part_of(table, rows, columns):
    """The table of these rows and columns, in these sequences."""
    return tuple([tuple([table[row][column] for column in columns]) for row in rows])


def first_order(table):
    """The first (rows, columns) for which the table is straight, or None."""
    check_table(table)
    check_few(table, MOST_TO_ORDER)
    return least_order(table)


def check_few(table, most):
    """Raise TooMany for a table of more rows or columns than that."""
    if len(table) > most or len(table[0]) > most:
        raise TooMany(f"sequences are tried of at most {most} rows and columns")


def least_order(table):
    """The first order of a table that has few rows, or None."""
    for rows in permutations(range(len(table))):
        falls = falls_along(table, rows)
        # Of columns that fall alike the first may stand ahead. Of others that
        # of the lesser falls has to, so that no other sequence is to be tried.
        by_falls = sorted([(steps, column) for column, steps in enumerate(falls)])
        columns = tuple([column for _, column in by_falls])
        if falls_rise(falls, columns):
            return (rows, columns)
    return None


def falls_along(table, rows):
    """For each column the tuple of its falls from each of these rows to the next one."""
    return [
        tuple([column[row] - column[further] for row, further in zip(rows, rows[1:])])
        for column in zip(*table)
    ]


def falls_rise(falls, columns):
    """Whether no fall of a column is more than that of the next of these columns at the same rows."""
    return all([
        fall <= other
        for column, further in zip(columns, columns[1:])
        for fall, other in zip(falls[column], falls[further])
    ])


def all_orders(table):
    """All (rows, columns) for which the table is straight, ascending."""
    check_table(table)
    check_few(table, MOST_TO_TRY)
    return [
        (rows, columns)
        for rows in permutations(range(len(table)))
        for columns in straight_columns(table, rows)
    ]


def straight_columns(table, rows):
    """All sequences of the columns for which the table with these rows is straight, ascending."""
    falls = falls_along(table, rows)
    return [columns for columns in permutations(range(len(falls))) if falls_rise(falls, columns)]


def like_rows(table):
    """The tuples of the rows that are like, in their sequence."""
    check_table(table)
    return alike(table)


def like_columns(table):
    """The tuples of the columns that are like, in their sequence."""
    check_table(table)
    return alike(list(zip(*table)))


def alike(rows):
    """The tuples of the indexes of those rows that are like."""
    groups = {}
    for at, row in enumerate(rows):
        steps = tuple([entry - row[0] for entry in row])
        groups[steps] = groups.get(steps, ()) + (at,)
    return list(groups.values())


def no_order(table):
    """The first of the fewest (rows, columns) together that have no order, or None."""
    check_table(table)
    check_few(table, MOST_TO_TRY)
    choices = [
        (len(rows) + len(columns), rows, columns)
        for rows in some_of(len(table))
        for columns in some_of(len(table[0]))
    ]
    for _, rows, columns in sorted(choices):
        if least_order(part_of(table, rows, columns)) is None:
            return (rows, columns)
    return None


def some_of(count):
    """All ascending tuples of one or more indexes below count."""
    return [chosen for size in range(1, count + 1) for chosen in combinations(range(count), size)]
