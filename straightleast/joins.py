"""Trees by which things in a row are joined, two and two, at the costs of a table."""

from straightleast.checks import check_number, is_integer, is_tuple_sized
from straightleast.errors import BadTree
from straightleast.products import first_middle, last_middle
from straightleast.tables import check_square

FEWEST_PLACES = 2
MOST_THINGS = 7


def join_cost(table, tree):
    """The cost of a join tree of one or more things of the table."""
    check_square(table, FEWEST_PLACES)
    first = first_thing(tree)
    if not is_integer(first) or first < 0 or end_of(tree, first, len(table) - 1) is None:
        raise BadTree("a join tree is a thing, or a tuple of two join trees, the second next behind the first")
    return cost_of(table, tree)


def first_thing(tree):
    """What stands ahead of all else in the tree."""
    while is_tuple_sized(tree, 2, 2):
        tree = tree[0]
    return tree


def end_of(thing, first, stop):
    """The place behind a join tree that begins with this thing, at most stop; None for no such tree."""
    if first >= stop:
        return None
    if is_integer(thing):
        return first + 1 if thing == first else None
    if not is_tuple_sized(thing, 2, 2):
        return None
    # Something has to be left for the second part, so that nothing is looked
    # into deeper than there are things.
    middle = end_of(thing[0], first, stop - 1)
    if middle is None:
        return None
    return end_of(thing[1], middle, stop)


def cost_of(table, tree):
    """The cost of what surely is a join tree."""
    if is_integer(tree):
        return 0
    one, other = tree
    return cost_of(table, one) + cost_of(table, other) + table[first_thing(one)][last_thing(other) + 1]


def last_thing(tree):
    """What stands behind all else in a join tree."""
    while isinstance(tree, tuple):
        tree = tree[1]
    return tree


def is_join_tree(table, thing):
    """Whether thing is a join tree of all things of the table."""
    check_square(table, FEWEST_PLACES)
    return end_of(thing, 0, len(table) - 1) == len(table) - 1


def join_trees(count):
    """All join trees of so many things, by the size of the first part, then by the parts."""
    check_number(count, 1, MOST_THINGS)
    return trees_between(0, count)


def trees_between(first, end):
    """These trees of the things from first to below end."""
    if end - first == 1:
        return [first]
    return [
        (one, other)
        for middle in range(first + 1, end)
        for one in trees_between(first, middle)
        for other in trees_between(middle, end)
    ]


def grows(table):
    """Whether no entry above the diagonal is more than that behind it or that above it."""
    check_square(table, FEWEST_PLACES)
    last = len(table) - 1
    return all([
        (other == last or table[place][other] <= table[place][other + 1])
        and (place == 0 or table[place][other] <= table[place - 1][other])
        for place in range(last)
        for other in range(place + 1, last + 1)
    ])


def least_joins(table):
    """For each place the list, for each place behind it, of the least cost of the things between."""
    costs = least_costs(table)
    return [[costs[first, end] for end in range(first + 1, len(table))] for first in range(len(table) - 1)]


def least_costs(table):
    """The least costs by (first, end), the places ahead of the things and behind them."""
    check_square(table, FEWEST_PLACES)
    costs = {}
    for first in reversed(range(len(table) - 1)):
        costs[first, first + 1] = 0
        for end in range(first + 2, len(table)):
            costs[first, end] = min(costs_of_parts(costs, first, end)) + table[first][end]
    return costs


def costs_of_parts(costs, first, end):
    """What both parts cost at least, by each place at which they may be parted."""
    return [costs[first, middle] + costs[middle, end] for middle in range(first + 1, end)]


def splits(table):
    """As least_joins, of the first place at which a least tree is parted, None for one thing."""
    costs = least_costs(table)
    return [
        [first_split(costs, first, end) for end in range(first + 1, len(table))]
        for first in range(len(table) - 1)
    ]


def first_split(costs, first, end):
    """The first place at which a least tree of these things is parted, None for one thing."""
    if end - first == 1:
        return None
    return first + 1 + first_middle(costs_of_parts(costs, first, end))


def last_splits(table):
    """As splits, of the last such place."""
    costs = least_costs(table)
    return [
        [last_split(costs, first, end) for end in range(first + 1, len(table))]
        for first in range(len(table) - 1)
    ]


def last_split(costs, first, end):
    """The last such place, None for one thing."""
    if end - first == 1:
        return None
    return first + 1 + last_middle(costs_of_parts(costs, first, end))


def best_joins(table):
    """(cost, tree): the least cost for all things, and the tree parted at the first places with it."""
    costs = least_costs(table)
    return (costs[0, len(table) - 1], first_tree(costs, 0, len(table) - 1))


def first_tree(costs, first, end):
    """The least tree of these things that is parted at the first place, and each part so."""
    middle = first_split(costs, first, end)
    if middle is None:
        return first
    return (first_tree(costs, first, middle), first_tree(costs, middle, end))


def count_best_joins(table):
    """How many trees of all things have the least cost."""
    costs = least_costs(table)
    return count_trees(costs, 0, len(table) - 1)


def count_trees(costs, first, end):
    """How many trees of these things have their least cost."""
    if end - first == 1:
        return 1
    sums = costs_of_parts(costs, first, end)
    least = min(sums)
    return sum([
        count_trees(costs, first, middle) * count_trees(costs, middle, end)
        for middle, cost in enumerate(sums, start=first + 1)
        if cost == least
    ])
