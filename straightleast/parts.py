"""The gains of a table, tables made of their gains, and the room that each entry has."""

from straightleast.checks import are_integers, check_index, check_integer, is_integer_within, is_tuple_sized
from straightleast.errors import BadIndexes, BadParts
from straightleast.tables import MOST_COLUMNS, MOST_ROWS, check_straight, check_table, crossing_gain


def parts(table):
    """(left, top, gains): the first column, the first row less its corner, the gains of neighbours."""
    check_table(table)
    left = tuple([row[0] for row in table])
    top = tuple([entry - table[0][0] for entry in table[0][1:]])
    return (left, top, neighbour_gains(table))


def neighbour_gains(table):
    """The tuple, for each row but the last, of the tuple of its gains."""
    return tuple([
        tuple([crossing_gain(table, row, row + 1, column, column + 1) for column in range(len(table[0]) - 1)])
        for row in range(len(table) - 1)
    ])


def built(told):
    """The table whose parts these are."""
    if not are_parts(told):
        raise BadParts("parts are a tuple of the left column, the top row and the gains, which fit together")
    left, top, gains = told
    row = [left[0]] + [left[0] + step for step in top]
    rows = [tuple(row)]
    for begin, line in zip(left[1:], gains):
        row = row_below(row, begin, line)
        rows.append(tuple(row))
    return tuple(rows)


def are_parts(thing):
    """Whether thing is (left, top, gains) of some table."""
    if not is_tuple_sized(thing, 3, 3):
        return False
    left, top, gains = thing
    if not is_tuple_sized(left, 1, MOST_ROWS) or not are_integers(left, len(left)):
        return False
    if not is_tuple_sized(top, 0, MOST_COLUMNS - 1) or not are_integers(top, len(top)):
        return False
    if not is_tuple_sized(gains, len(left) - 1, len(left) - 1):
        return False
    return all([are_integers(line, len(top)) for line in gains])


def row_below(row, begin, gains):
    """The row that begins so and has these gains with the row ahead of it."""
    below = [begin]
    for column, lost in enumerate(gains):
        below.append(below[column] + row[column + 1] - row[column] - lost)
    return below


def gain(table, row, other, column, last):
    """The crossing sum of the two rows and the two columns less the straight one."""
    check_table(table)
    check_place(row, 0, len(table))
    check_place(other, row, len(table))
    check_place(column, 0, len(table[0]))
    check_place(last, column, len(table[0]))
    return crossing_gain(table, row, other, column, last)


def check_place(thing, low, count):
    """Raise BadIndexes for what is no index from low to below count."""
    if not is_integer_within(thing, low, count - 1):
        raise BadIndexes("rows and columns are indexes of the table, the latter ones not less")


def rooms(table):
    """For each row and column (down, up): how much this entry alone can be less, and greater."""
    check_straight(table)
    gains = neighbour_gains(table)
    return [[room_at(gains, row, column) for column in range(len(table[0]))] for row in range(len(table))]


def room_at(gains, row, column):
    """(down, up) of one entry, None where nothing bounds it."""
    # The entry stands on the crossing side of the gains below left and above
    # right of it, and on the straight side of the other two.
    down = least_gain(gains, ((row - 1, column), (row, column - 1)))
    up = least_gain(gains, ((row - 1, column - 1), (row, column)))
    return (down, up)


def least_gain(gains, places):
    """The least of the gains at those of these places that the table has, None if it has none."""
    found = [
        gains[row][column]
        for row, column in places
        if 0 <= row < len(gains) and 0 <= column < len(gains[row])
    ]
    return min(found, default=None)


def changed(table, row, column, number):
    """The table with another entry at one place, straight as before."""
    check_straight(table)
    check_index(row, 0, len(table) - 1)
    check_index(column, 0, len(table[0]) - 1)
    check_integer(number)
    line = table[row][:column] + (number,) + table[row][column + 1:]
    found = table[:row] + (line,) + table[row + 1:]
    check_straight(found)
    return found
