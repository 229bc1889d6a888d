"""Pairings of rows and columns, all of them or so many, at a price for each pair."""

from straightleast.checks import check_integer, check_number, is_integer_within, is_sequence_of_all, is_tuple_sized
from straightleast.errors import BadPairing
from straightleast.tables import check_square, check_straight, check_straight_square


def pairing_cost(table, pairing):
    """The sum of the entries of a pairing."""
    check_square(table)
    check_pairing(pairing, len(table))
    return sum([row[column] for row, column in zip(table, pairing)])


def check_pairing(thing, count):
    """Raise BadPairing for what is no tuple of all columns."""
    if not is_sequence_of_all(thing, count):
        raise BadPairing("a pairing is a tuple of all columns, the column of each row")


def count_least_pairings(table):
    """How many pairings of a straight table have the least cost."""
    check_straight_square(table)
    # The columns that the rows ahead take are the bits of a number; for each
    # such number stands here what taking just these costs at least, and in
    # how many ways it does.
    leasts = [(0, 1)]
    for taken in range(1, 1 << len(table)):
        columns = [column for column in range(len(table)) if taken & (1 << column)]
        row = table[len(columns) - 1]
        choices = []
        for column in columns:
            cost, count = leasts[taken - (1 << column)]
            choices.append((cost + row[column], count))
        leasts.append(least_and_count(choices))
    return leasts[-1][1]


def least_and_count(choices):
    """The least cost of these (cost, count), and the counts with it together."""
    least = min([cost for cost, _ in choices])
    return (least, sum([count for cost, count in choices if cost == least]))


def uncrossings(table, pairing):
    """Exchanges of rows that cross, one after the other, which lead to the straight pairing."""
    check_straight_square(table)
    check_pairing(pairing, len(table))
    columns = list(pairing)
    found = []
    for row in range(len(columns)):
        # The rows ahead have their own columns by now, so that this row's
        # own column stands at it or behind it, and its column is no lesser.
        other = columns.index(row)
        if other != row:
            columns[other] = columns[row]
            columns[row] = row
            found.append((row, other))
    return found


def uncrossings_hold(table, pairing, thing):
    """Whether thing is a list of such exchanges for the pairing."""
    check_straight_square(table)
    check_pairing(pairing, len(table))
    return isinstance(thing, list) and leads_straight(list(pairing), thing)


def leads_straight(columns, steps):
    """Whether the steps, each of which exchanges rows that cross, lead to the straight pairing."""
    # Each such step leaves fewer crossings, so a list that is too long is
    # found wrong soon.
    for step in steps:
        if not is_uncrossing(step, columns):
            return False
        row, other = step
        columns[row], columns[other] = columns[other], columns[row]
    return columns == list(range(len(columns)))


def is_uncrossing(step, columns):
    """Whether step is a pair of rows, the lesser ahead, whose columns cross."""
    if not is_tuple_sized(step, 2, 2):
        return False
    row, other = step
    if not is_integer_within(row, 0, len(columns) - 1) or not is_integer_within(other, row + 1, len(columns) - 1):
        return False
    return columns[row] > columns[other]


def best_pairs(table, count):
    """(sum, rows, columns): the least sum of so many pairs, and the first straight ones with it."""
    check_straight(table)
    check_number(count, 0, min(len(table), len(table[0])))
    return least_pairs(table)[count]


def least_pairs(table):
    """For each number of pairs the first least (sum, rows, columns) of straight ones."""
    # From the last row and column on: behind each place the least of every
    # number of pairs is known already.
    height = len(table)
    width = len(table[0])
    found = {}
    for row in reversed(range(height + 1)):
        for column in reversed(range(width + 1)):
            most = min(height - row, width - column)
            found[row, column] = [
                least_from(table, found, row, column, count)
                for count in range(most + 1)
            ]
    return found[0, 0]


def least_from(table, found, row, column, count):
    """The first least of so many straight pairs from this row and this column on."""
    if count == 0:
        return (0, (), ())
    total, rows, columns = found[row + 1, column + 1][count - 1]
    choices = [(table[row][column] + total, (row,) + rows, (column,) + columns)]
    for further in (found[row + 1, column], found[row, column + 1]):
        if count < len(further):
            choices.append(further[count])
    # As tuples compare, what stands ahead of the rest is the same for all
    # choices of a rest, so the first of all begins with a first one.
    return min(choices)


def pair_sums(table):
    """The least sums of no pair, of one, of two, and so on."""
    check_straight(table)
    return [total for total, _, _ in least_pairs(table)]


def pairs_at_price(table, price):
    """(number, least): the least of a sum of pairs less the price of each, and the fewest with it."""
    sums = pair_sums(table)
    check_integer(price)
    left = [total - price * number for number, total in enumerate(sums)]
    least = min(left)
    return (left.index(least), least)


def pair_prices(table):
    """What each pair more adds to the least sum."""
    sums = pair_sums(table)
    return [sums[number] - sums[number - 1] for number in range(1, len(sums))]
