"""Climbs from place 0 to the last one, in so many steps or at a price for each step."""

from straightleast.checks import are_indexes, check_integer, check_number
from straightleast.errors import BadClimb
from straightleast.tables import check_square, check_straight_square

FEWEST_PLACES = 2


def climb_cost(table, climb):
    """The sum of the steps of a climb."""
    check_square(table, FEWEST_PLACES)
    if not is_climb(climb, len(table)):
        raise BadClimb("a climb is a tuple of rising places, from 0 to the last one")
    return sum([table[place][further] for place, further in zip(climb, climb[1:])])


def is_climb(thing, count):
    """Whether thing is a tuple of rising places from 0 to count - 1."""
    return are_indexes(thing, count) and thing[0] == 0 and thing[-1] == count - 1


def best_climb(table, count):
    """(sum, climb): the least sum of climbs in so many steps, and the first of them with it."""
    check_square(table, FEWEST_PLACES)
    check_number(count, 1, len(table) - 1)
    return least_climbs(table)[count - 1]


def least_climbs(table):
    """The first least (sum, climb) in one step, in two, and so on."""
    last = len(table) - 1
    # How the last place is come to, from each place on, in as many steps as
    # have been gone through by now: at first in none.
    rests = [None] * last + [(0, (last,))]
    found = []
    for _ in range(last):
        rests = [with_step_ahead(table, place, rests) for place in range(len(table))]
        found.append(rests[0])
    return found


def with_step_ahead(table, place, rests):
    """The first least (sum, places) from the place by one step to one of these rests, or None."""
    choices = []
    for further in range(place + 1, len(table)):
        if rests[further] is not None:
            total, places = rests[further]
            choices.append((table[place][further] + total, (place,) + places))
    return min(choices, default=None)


def climb_sums(table):
    """The least sums of climbs in one step, in two, and so on."""
    check_square(table, FEWEST_PLACES)
    return [total for total, _ in least_climbs(table)]


def last_steps(table, count):
    """For each place the least last but one of the least climbs to it in so many steps, or None."""
    check_square(table, FEWEST_PLACES)
    check_number(count, 1, len(table) - 1)
    leasts = [0] + [None] * (len(table) - 1)
    for _ in range(count - 1):
        leasts = [least_and_place(table, leasts, place)[0] for place in range(len(table))]
    return tuple([least_and_place(table, leasts, place)[1] for place in range(len(table))])


def least_and_place(table, leasts, place):
    """(least, other): the least sum to the place by one step more, and the first place it comes from."""
    choices = [
        (leasts[other] + table[other][place], other)
        for other in range(place)
        if leasts[other] is not None
    ]
    return min(choices, default=(None, None))


def best_of_all(table):
    """(sum, climb): the least of all climbs, the first by fewer steps and then as tuples compare."""
    check_square(table, FEWEST_PLACES)
    return min(least_climbs(table), key=lambda found: found[0])


def climbs_at_price(table, price):
    """(steps, sum): the least sum with the price added for each step, and the fewest steps with it."""
    sums = climb_sums(table)
    check_integer(price)
    totals = [total + price * steps for steps, total in enumerate(sums, start=1)]
    least = min(totals)
    return (totals.index(least) + 1, least)


def climb_prices(table):
    """What each step more saves of the least sum."""
    check_straight_square(table, FEWEST_PLACES)
    sums = climb_sums(table)
    return [sums[at - 1] - sums[at] for at in range(1, len(sums))]
