"""Tours of all places, and those among them that rise to the last place and fall back."""

from itertools import permutations

from straightleast.checks import check_number, is_ascending, is_sequence_of_all
from straightleast.errors import BadTour, TooMany
from straightleast.tables import check_square, check_straight_square

FEWEST_PLACES = 2
MOST_PLACES = 8
MOST_PLACES_TO_TRY = 7


def tour_cost(table, tour):
    """The sum of the steps of a tour, the last one back to 0."""
    check_square(table, FEWEST_PLACES)
    check_tour(tour, len(table))
    return round_cost(table, tour)


def check_tour(thing, count):
    """Raise BadTour for what is no tuple of all places that begins with 0."""
    if not is_sequence_of_all(thing, count) or thing[0] != 0:
        raise BadTour("a tour is a tuple of all places, 0 first")


def round_cost(table, places):
    """The sum of the entries from each place to the next, and from the last one to the first."""
    return sum([table[place][further] for place, further in zip(places, places[1:] + places[:1])])


def is_up_and_down(table, tour):
    """Whether the tour rises to the last place and falls behind it."""
    check_square(table, FEWEST_PLACES)
    check_tour(tour, len(table))
    top = tour.index(len(tour) - 1)
    return is_ascending(tour[:top + 1]) and is_ascending(tour[top:][::-1])


def up_and_down_tours(count):
    """All tours of so many places that rise to the last place and fall behind it, ascending."""
    check_number(count, FEWEST_PLACES, MOST_PLACES)
    return rising_and_falling(count)


def rising_and_falling(count):
    """These tours, each place between being one of the way up or of the way down."""
    halves = [((0,), ())]
    for place in range(1, count - 1):
        rising = [(up + (place,), down) for up, down in halves]
        falling = [(up, (place,) + down) for up, down in halves]
        halves = rising + falling
    return sorted([up + (count - 1,) + down for up, down in halves])


def best_tour(table):
    """(cost, tour): the least cost of all tours, and the first up-and-down tour with it."""
    check_straight_square(table, FEWEST_PLACES)
    # In a straight table no tour costs less than the best of these.
    return min([(round_cost(table, tour), tour) for tour in rising_and_falling(len(table))])


def best_through(table):
    """The least cost from 0 through all places, each once, to the last one."""
    check_straight_square(table, FEWEST_PLACES)
    # In a straight table the places in their own sequence have it.
    return sum([table[place][place + 1] for place in range(len(table) - 1)])


def tours_of_cost(table):
    """How many of all tours have the least cost."""
    check_straight_square(table, FEWEST_PLACES)
    if len(table) > MOST_PLACES_TO_TRY:
        raise TooMany("tours are counted of at most seven places")
    costs = [round_cost(table, (0,) + rest) for rest in permutations(range(1, len(table)))]
    return costs.count(min(costs))
