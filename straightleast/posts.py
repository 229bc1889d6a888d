"""Posts at some of the houses on a street, and how far off they are from all of them."""

from itertools import combinations

from straightleast.checks import are_indexes, are_integers_within, check_integer, check_number, is_tuple_sized
from straightleast.errors import BadHouses, BadPosts
from straightleast.least import check_stretch
from straightleast.products import first_middle

MOST_HOUSES = 7
FARTHEST = 10 ** 12


def check_houses(thing):
    """Raise BadHouses for what are no houses."""
    if not are_houses(thing):
        raise BadHouses("houses are a tuple of one to seven integers that never fall, up to 10 ** 12 off 0")


def are_houses(thing):
    """Whether thing is a tuple of one to seven integers within the bounds that never fall."""
    if not is_tuple_sized(thing, 1, MOST_HOUSES) or not are_integers_within(thing, -FARTHEST, FARTHEST):
        return False
    return all([house <= further for house, further in zip(thing, thing[1:])])


def check_posts(thing, count):
    """Raise BadPosts for what is no ascending tuple of indexes of so many houses."""
    if not are_indexes(thing, count):
        raise BadPosts("posts are an ascending tuple of one or more indexes of houses")


def posts_cost(houses, posts):
    """The sum, over all houses, of how far off the nearest post is."""
    check_houses(houses)
    check_posts(posts, len(houses))
    return cost_with(houses, posts)


def cost_with(houses, posts):
    """This sum for what surely are houses and posts."""
    return sum([min(ways_off(houses, posts, house)) for house in houses])


def ways_off(houses, posts, house):
    """How far each post is off the house."""
    return [abs(houses[post] - house) for post in posts]


def post_stretches(houses, posts):
    """For each post (first, end): the houses whose nearest post it is, of several the first."""
    check_houses(houses)
    check_posts(posts, len(houses))
    nearest = [first_middle(ways_off(houses, posts, house)) for house in houses]
    found = []
    first = 0
    for post in range(len(posts)):
        # The nearest posts never fall, so those of one post stand together.
        end = first + nearest.count(post)
        found.append((first, end))
        first = end
    return found


def stretch_cost(houses, first, end):
    """(sum, house): the least sum from one of the houses to all from first to below end, the first with it."""
    check_houses(houses)
    check_stretch(first, end, len(houses))
    return least_of_one(houses, first, end)


def least_of_one(houses, first, end):
    """This sum and house for a stretch that surely is one."""
    return min([(cost_with(houses[first:end], (house - first,)), house) for house in range(first, end)])


def best_posts(houses, count):
    """(sum, posts): the least cost of so many posts, and the first posts that have it."""
    check_houses(houses)
    check_number(count, 1, len(houses))
    return least_posts(houses, count)


def least_posts(houses, count):
    """The least of the cost of so many posts and the posts."""
    return min([(cost_with(houses, posts), posts) for posts in combinations(range(len(houses)), count)])


def post_sums(houses):
    """The least costs of one post, of two, and so on."""
    check_houses(houses)
    return [least_posts(houses, count)[0] for count in range(1, len(houses) + 1)]


def posts_at_price(houses, price):
    """(number, sum): the least sum with the price added for each post, and the fewest posts with it."""
    sums = post_sums(houses)
    check_integer(price)
    totals = [cost + price * number for number, cost in enumerate(sums, start=1)]
    least = min(totals)
    return (totals.index(least) + 1, least)


def stretch_table(houses):
    """The table of what each stretch of houses costs, from the place ahead of it to that behind it."""
    check_houses(houses)
    size = len(houses) + 1
    return tuple([
        tuple([least_of_one(houses, first, end)[0] if first < end else 0 for end in range(size)])
        for first in range(size)
    ])
