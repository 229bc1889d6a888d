"""Fillings of a table from stocks to wishes, and prices that show that none costs less."""

from straightleast.checks import are_integers, are_integers_within, is_ascending, is_tuple_sized
from straightleast.errors import BadFilling, BadStocks, BadWishes
from straightleast.tables import check_straight, check_table

MOST_AMOUNT = 10 ** 12
GREATEST_PRICE = 10 ** 30 - 1


def corner_filling(table, stocks, wishes):
    """The filling by which the first row that has gives to the first column that wants."""
    check_table(table)
    check_amounts(table, stocks, wishes)
    return filled_from_corner(stocks, wishes)


def check_amounts(table, stocks, wishes):
    """Raise BadStocks or BadWishes for what are none of this table."""
    if not are_amounts(stocks, len(table)):
        raise BadStocks("stocks are a tuple of an integer from 0 to 10 ** 12 for each row")
    if not are_amounts(wishes, len(table[0])) or sum(wishes) != sum(stocks):
        raise BadWishes("wishes are a tuple of such an integer for each column, together as many as the stocks")


def are_amounts(thing, count):
    """Whether thing is a tuple of just so many integers from 0 to the most."""
    return is_tuple_sized(thing, count, count) and are_integers_within(thing, 0, MOST_AMOUNT)


def filled_from_corner(stocks, wishes):
    """The corner filling for stocks and wishes that are together the same."""
    left = list(stocks)
    wanted = list(wishes)
    row = 0
    column = 0
    found = []
    while row < len(left) and column < len(wanted):
        amount = min(left[row], wanted[column])
        if amount > 0:
            found.append((row, column, amount))
        left[row] -= amount
        wanted[column] -= amount
        if left[row] == 0:
            row += 1
        else:
            column += 1
    return found


def filling_holds(table, stocks, wishes, thing):
    """Whether thing is a filling for the stocks and the wishes."""
    check_table(table)
    check_amounts(table, stocks, wishes)
    return is_filling(stocks, wishes, thing)


def is_filling(stocks, wishes, thing):
    """Whether thing is a list of amounts, by places, whose sums are the stocks and the wishes."""
    if not isinstance(thing, list) or len(thing) > len(stocks) * len(wishes):
        return False
    if not all([is_share(share, len(stocks), len(wishes)) for share in thing]):
        return False
    if not is_ascending([(row, column) for row, column, _ in thing]):
        return False
    given = [0] * len(stocks)
    come = [0] * len(wishes)
    for row, column, amount in thing:
        given[row] += amount
        come[column] += amount
    return given == list(stocks) and come == list(wishes)


def is_share(thing, height, width):
    """Whether thing is a row, a column and an amount from 1 on."""
    if not are_integers(thing, 3):
        return False
    row, column, amount = thing
    return 0 <= row < height and 0 <= column < width and amount >= 1


def filling_cost(table, stocks, wishes, filling):
    """The sum of the amounts times the entries."""
    check_table(table)
    check_amounts(table, stocks, wishes)
    if not is_filling(stocks, wishes, filling):
        raise BadFilling("a filling is a list of (row, column, amount) whose sums are the stocks and the wishes")
    return sum([amount * table[row][column] for row, column, amount in filling])


def prices(table, stocks, wishes):
    """(rows, columns): prices that are together at most each entry, and it where the corner filling is."""
    check_straight(table)
    check_amounts(table, stocks, wishes)
    filling = filled_from_corner(stocks, wishes)
    # The rows' prices only fall and the columns' only rise, from 0 on and no
    # farther than one of the conditions forces them: so they come to be no
    # farther from one another than in any other prices. The table being
    # straight, no price forces itself round about, and all is still after as
    # many turns as there are prices.
    rows = [0] * len(table)
    columns = [0] * len(table[0])
    turns = len(table) + len(table[0])
    for _ in range(turns):
        rows = fallen_prices(table, rows, columns)
        columns = risen_prices(table, rows, columns, filling)
    return nearest_to_nought(rows, columns)


def fallen_prices(table, rows, columns):
    """The rows' prices, each made as little less as no entry is less than both prices."""
    return [
        min(price, min([entry - other for entry, other in zip(line, columns)]))
        for price, line in zip(rows, table)
    ]


def risen_prices(table, rows, columns, filling):
    """The columns' prices, each made as little greater as the filled entries are not more than both."""
    found = list(columns)
    for row, column, _ in filling:
        found[column] = max(found[column], table[row][column] - rows[row])
    return found


def nearest_to_nought(rows, columns):
    """Prices that do the same and are as near to 0 as may be, by one number added to rows and taken from columns."""
    all_of_them = rows + [-price for price in columns]
    middle = (max(all_of_them) + min(all_of_them)) // 2
    return (
        tuple([price - middle for price in rows]),
        tuple([price + middle for price in columns]),
    )


def prices_hold(table, stocks, wishes, thing):
    """Whether thing is (rows, columns), prices of which both conditions hold."""
    check_straight(table)
    check_amounts(table, stocks, wishes)
    if not are_prices(thing, len(table), len(table[0])):
        return False
    rows, columns = thing
    left = [
        [entry - price - other for entry, other in zip(line, columns)]
        for line, price in zip(table, rows)
    ]
    if min([min(line) for line in left]) < 0:
        return False
    return all([left[row][column] == 0 for row, column, _ in filled_from_corner(stocks, wishes)])


def are_prices(thing, height, width):
    """Whether thing is a tuple of two tuples of integers, for the rows and for the columns."""
    if not is_tuple_sized(thing, 2, 2):
        return False
    rows, columns = thing
    if not are_integers(rows, height) or not are_integers(columns, width):
        return False
    return all([abs(price) <= GREATEST_PRICE for price in rows + columns])
