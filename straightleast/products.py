"""Least sums over a middle, and ways of so many steps."""

from math import gcd

from straightleast.checks import are_integers_within, check_index, check_number, is_tuple_sized
from straightleast.errors import BadChain, BadSizes, BadWay
from straightleast.tables import check_square, check_table, is_table

MOST_TABLES = 10
MOST_FACTORS = 10 ** 18
MOST_STEPS = 60


def product(table, other):
    """The table of the least sums of an entry of the one and one of the other, over the middles."""
    check_factors(table, other)
    return least_sums(table, other)


def check_factors(table, other):
    """Raise BadTable for what is no table, BadSizes if the second does not begin as the first ends."""
    check_table(table)
    check_table(other)
    if len(other) != len(table[0]):
        raise BadSizes("the second table has as many rows as the first one has columns")


def least_sums(table, other):
    """The product of two tables that fit together."""
    return tuple([
        tuple([min(sums_over(row, column)) for column in zip(*other)])
        for row in table
    ])


def sums_over(row, column):
    """The sums by each middle, of the first table's row and the second one's column."""
    return [ahead + behind for ahead, behind in zip(row, column)]


def middles(table, other):
    """For each row and column the first middle whose sum is least."""
    check_factors(table, other)
    return [[first_middle(sums_over(row, column)) for column in zip(*other)] for row in table]


def first_middle(sums):
    """Where the least of these stands first."""
    return sums.index(min(sums))


def last_middles(table, other):
    """For each row and column the last middle whose sum is least."""
    check_factors(table, other)
    return [[last_middle(sums_over(row, column)) for column in zip(*other)] for row in table]


def last_middle(sums):
    """Where the least of these stands last."""
    return len(sums) - 1 - first_middle(sums[::-1])


def product_of(tables):
    """The product of a chain of tables."""
    check_chain(tables)
    found = tables[0]
    for table in tables[1:]:
        found = least_sums(found, table)
    return found


def check_chain(thing):
    """Raise BadChain for what is no list or tuple of one to ten tables that fit together."""
    if not is_chain(thing):
        raise BadChain("a chain is a list or tuple of one to ten tables, each of which fits the one ahead")


def is_chain(thing):
    """Whether thing is a list or tuple of one to ten tables that fit together."""
    if not isinstance(thing, (list, tuple)) or not 1 <= len(thing) <= MOST_TABLES:
        return False
    if not all([is_table(table) for table in thing]):
        return False
    return all([len(thing[at - 1][0]) == len(thing[at]) for at in range(1, len(thing))])


def chain_way(tables, row, column):
    """The first least way through the chain, from a row of its first to a column of its last table."""
    check_chain(tables)
    check_index(row, 0, len(tables[0]) - 1)
    check_index(column, 0, len(tables[-1][0]) - 1)
    return first_way(tables, row, column)


def first_way(tables, row, column):
    """The first least way, as tuples compare, through tables that fit together."""
    # The sums from each middle to the end are found first, from behind: with
    # them the first place that is on a least way is known at each step.
    ahead = tables[:-1]
    leasts = [[line[column] for line in tables[-1]]]
    for table in reversed(ahead):
        leasts.append([min(sums_over(line, leasts[-1])) for line in table])
    places = [row]
    for at, table in enumerate(ahead):
        rest = leasts[len(ahead) - 1 - at]
        places.append(first_middle(sums_over(table[places[-1]], rest)))
    return tuple(places + [column])


def power(table, count):
    """The product of so many of a square table."""
    check_square(table)
    check_number(count, 1, MOST_FACTORS)
    # The count may be far too great to multiply one by one: each binary digit
    # behind the first one doubles what has been multiplied by then.
    digits = f"{count:b}"
    found = table
    for digit in digits[1:]:
        found = least_sums(found, found)
        if digit == "1":
            found = least_sums(found, table)
    return found


def way(table, place, other, count):
    """The first least way, as tuples compare, from one place to the other in so many steps."""
    check_square(table)
    check_index(place, 0, len(table) - 1)
    check_index(other, 0, len(table) - 1)
    check_number(count, 1, MOST_STEPS)
    return first_way((table,) * count, place, other)


def way_cost(table, way):
    """The sum of the steps of a way."""
    check_square(table)
    if not is_tuple_sized(way, 2, MOST_STEPS + 1) or not are_integers_within(way, 0, len(table) - 1):
        raise BadWay("a way is a tuple of two to sixty-one places of the table")
    return sum([table[place][further] for place, further in zip(way, way[1:])])


def least_round(table):
    """(sum, steps): the least mean of a round, as a fraction in least terms."""
    check_square(table)
    # A walk back to its place is made of rounds, so the least of the walks of
    # so many steps, not more than there are places, has a least round in it.
    best = least_back(table)
    among = 1
    found = table
    for steps in range(2, len(table) + 1):
        found = least_sums(found, table)
        least = least_back(found)
        if least * among < best * steps:
            best = least
            among = steps
    shared = gcd(best, among)
    return (best // shared, among // shared)


def least_back(table):
    """The least of the entries from a place to itself."""
    return min([row[place] for place, row in enumerate(table)])
