"""Sessions: a straight table, deeds that change it, and their undoing."""

from straightleast.checks import check_index, check_integer
from straightleast.errors import Full, NothingToUndo
from straightleast.least import firsts, least_of_stretch
from straightleast.pairings import best_pairs
from straightleast.parts import changed, rooms
from straightleast.tables import added, check_straight, lifted, thinned, turned

MOST_DEEDS = 50


class Session:
    """A straight table, and the tables that it was ahead of each deed in force."""

    def __init__(self, table):
        check_straight(table)
        # Built anew: nothing that was handed in is kept.
        self._held = tuple([tuple(list(row)) for row in table])
        self._before = []

    def lift_row(self, row, number):
        """Add a number to a row."""
        check_index(row, 0, len(self._held) - 1)
        check_integer(number)
        rows = alone(number, row, len(self._held))
        self._hold(lifted(self._held, rows, (0,) * len(self._held[0])))

    def lift_column(self, column, number):
        """Add a number to a column."""
        check_index(column, 0, len(self._held[0]) - 1)
        check_integer(number)
        columns = alone(number, column, len(self._held[0]))
        self._hold(lifted(self._held, (0,) * len(self._held), columns))

    def change(self, row, column, number):
        """Set an entry."""
        self._hold(changed(self._held, row, column, number))

    def thin(self, rows, columns):
        """Keep these rows and columns alone."""
        self._hold(thinned(self._held, rows, columns))

    def add(self, table):
        """Add a straight table of the same size."""
        check_straight(table)
        self._hold(added(self._held, table))

    def turn(self):
        """Exchange rows and columns."""
        self._hold(turned(self._held))

    def undo(self):
        """Take back the last deed in force."""
        if len(self._before) == 0:
            raise NothingToUndo("no deed is in force")
        self._held = self._before.pop()

    def table(self):
        """The table as it is now."""
        return self._held

    def firsts(self):
        """The first column of the least entry of each row."""
        return firsts(self._held)

    def least(self):
        """(entry, row, column): the least of all, the first by rows and then by columns."""
        return least_of_stretch(self._held, 0, len(self._held), 0, len(self._held[0]))

    def pairs(self, count):
        """(sum, rows, columns): the least sum of so many pairs, and the first straight ones with it."""
        return best_pairs(self._held, count)

    def room(self, row, column):
        """(down, up): by how much this entry alone can be less, and greater."""
        check_index(row, 0, len(self._held) - 1)
        check_index(column, 0, len(self._held[0]) - 1)
        return rooms(self._held)[row][column]

    def __len__(self):
        return len(self._held)

    def __eq__(self, other):
        return isinstance(other, Session) and self._held == other._held

    def copy(self):
        """An equal session that goes its own way and can take back the same deeds."""
        other = Session(self._held)
        other._before = list(self._before)
        return other

    def _hold(self, table):
        """Put a deed in force that makes the table this one."""
        if len(self._before) == MOST_DEEDS:
            raise Full("at most fifty deeds are in force")
        self._before.append(self._held)
        self._held = table


def alone(number, place, count):
    """A tuple of so many integers, all 0 but the number at its place."""
    return tuple([number if at == place else 0 for at in range(count)])
