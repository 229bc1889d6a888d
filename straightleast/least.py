"""The least entries of rows and stretches, and where they are looked for."""

from straightleast.checks import check_index
from straightleast.tables import check_straight, check_table


def firsts(table):
    """The first column of the least entry of each row."""
    check_table(table)
    return tuple([first_least(row, 0, len(row)) for row in table])


def first_least(row, column, end):
    """The first column, from column to below end, of the least entry there."""
    entries = row[column:end]
    return column + entries.index(min(entries))


def lasts(table):
    """The last column of the least entry of each row."""
    check_table(table)
    return tuple([len(row) - 1 - first_least(row[::-1], 0, len(row)) for row in table])


def least_entries(table):
    """The least entry of each row."""
    check_table(table)
    return tuple([min(row) for row in table])


def least_in(table, row, column, end):
    """(entry, column): the least entry of the row from column to below end, and its first column."""
    check_table(table)
    check_index(row, 0, len(table) - 1)
    check_stretch(column, end, len(table[0]))
    found = first_least(table[row], column, end)
    return (table[row][found], found)


def check_stretch(first, end, count):
    """Raise BadIndex unless first is an index below count, and end one above first, at most count."""
    check_index(first, 0, count - 1)
    check_index(end, first + 1, count)


def least_of_stretch(table, row, stop, column, end):
    """(entry, row, column): the least of these rows and columns, the first by rows, then by columns."""
    check_table(table)
    check_stretch(row, stop, len(table))
    check_stretch(column, end, len(table[0]))
    return min([
        (table[at][place], at, place)
        for at in range(row, stop)
        for place in range(column, end)
    ])


def looks(table):
    """The places that are looked at to find the least of all rows, in their sequence."""
    check_straight(table)
    return looks_between(table, 0, len(table), 0, len(table[0]) - 1)


def looks_between(table, row, stop, first, last):
    """Those in the rows from row to below stop, whose leasts stand at the columns first to last."""
    if row == stop:
        return []
    middle = (row + stop - 1) // 2
    found = first_least(table[middle], first, last + 1)
    here = [(middle, column) for column in range(first, last + 1)]
    ahead = looks_between(table, row, middle, first, found)
    behind = looks_between(table, middle + 1, stop, found, last)
    return here + ahead + behind


def count_looks(table):
    """How many places are looked at."""
    return len(looks(table))
