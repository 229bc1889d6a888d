"""A call of each function of the interface, with what is wrong of each of its arguments."""

import collections

from straightleast import climbs, fillings, least, pairings, parts, products, tables, texts, tours
from straightleast.errors import (
    BadChain, BadClimb, BadFilling, BadIndex, BadIndexes, BadNumber, BadNumbers, BadPairing, BadParts, BadRows,
    BadSizes, BadSquare, BadStocks, BadTable, BadTour, BadWay, BadWishes, NotStraight, TooMany,
)

from tests.samples import FAR, Q, spoiled

Call = collections.namedtuple("Call", "function names told wanted faults")

TABLE = ((4, 1, 7), (2, 2, 0))
SQUARE = ((3, 5), (4, 1))
CROSSED = ((0, 0), (0, 1))
STRAIGHT = ((0, 2, 5), (1, 1, 3))
LEFT_OVER = ((0, 1), (2, 3), (4, 9))
TALL_STRAIGHT = ((0, 1), (2, 3), (4, 4))
ANY_OF_THREE = ((1, 4, 2), (3, 0, 5), (2, 6, 1))
ALONE = (BadSquare, ((5,),))
PAIRED = ((0, 3, 6), (2, 1, 3), (7, 5, 2))


def call(function, wanted, **arguments):
    """Each argument is a pair: the right object, and the list of (error, wrong object) of it."""
    told = tuple(right for right, _ in arguments.values())
    return Call(function, list(arguments), told, wanted, [faults for _, faults in arguments.values()])


def arg(right, error, *more):
    """An argument each part of which is wrong if it is of another kind."""
    return (right, [(error, wrong) for wrong in spoiled(right)] + list(more))


def table(right=TABLE):
    return arg(right, BadTable, (BadTable, (right[0], right[0][:-1])), (BadTable, (right[0],) * 9))


def straight(right=STRAIGHT):
    return arg(right, BadTable, (BadTable, (right[0],) * 9), (NotStraight, CROSSED), (NotStraight, LEFT_OVER))


def square(right=SQUARE):
    return arg(right, BadTable, (BadTable, (right[0],) * 9), (BadSquare, TABLE), (BadSquare, LEFT_OVER))


def squared(*more):
    """A straight square table, with what else is wrong of it."""
    faults = [(BadTable, (PAIRED[0],) * 9), (BadSquare, TALL_STRAIGHT), (BadSquare, LEFT_OVER)]
    return arg(PAIRED, BadTable, *faults, (NotStraight, CROSSED), *more)


def places():
    """A square table of two places or more, straight or not."""
    faults = [(BadTable, (ANY_OF_THREE[0],) * 9), (BadSquare, TALL_STRAIGHT), (BadSquare, LEFT_OVER), ALONE]
    return arg(ANY_OF_THREE, BadTable, *faults)


def pairing(right):
    return arg(right, BadPairing, (BadPairing, (0, 1)), (BadPairing, (0, 1, 1)), (BadPairing, (0, 1, FAR)))


def tour(right):
    return arg(right, BadTour, (BadTour, (0, 1)), (BadTour, (1, 0, 2)), (BadTour, (0, 1, 1)), (BadTour, (0, 1, FAR)))


def judged(right, *more):
    """Any object: what is near to the right one is no such paper."""
    return arg(right, None, *[(None, wrong) for wrong in more])


def index(right, low, high, error=BadIndex):
    return arg(right, error, (error, low - 1), (error, high + 1), (error, FAR), (error, -FAR))


def number(right, low, high):
    return index(right, low, high, BadNumber)


def chain(right):
    right, faults = arg(right, BadChain, (BadChain, [Q] * 11), (BadChain, [TABLE, TABLE]), (BadChain, [[TABLE]]))
    swapped = (list, tuple)[isinstance(right, list)](right)
    return (right, [fault for fault in faults if fault[1] != swapped] + [(BadChain, []), (BadChain, ())])


STAGE_1 = [
    call(tables.is_table, True, thing=(TABLE, [(None, wrong) for wrong in spoiled(TABLE)])),
    call(tables.is_straight, False, table=table()),
    call(tables.first_crossing, (0, 0), table=table()),
    call(tables.count_crossings, 1, table=table()),
    call(
        tables.lifted, ((15, 13, 20), (23, 24, 23)), table=table(),
        rows=arg((10, 20), BadNumbers, (BadNumbers, (1,))), columns=arg((1, 2, 3), BadNumbers, (BadNumbers, ())),
    ),
    call(
        tables.added, ((5, 2, 8), (2, 2, 5)), table=table(),
        other=arg(((1, 1, 1), (0, 0, 5)), BadTable, (BadSizes, SQUARE), (BadSizes, LEFT_OVER)),
    ),
    call(tables.scaled, ((12, 3, 21), (6, 6, 0)), table=table(), times=number(3, 0, 10 ** 9)),
    call(tables.turned, ((4, 2), (1, 2), (7, 0)), table=table()),
    call(
        tables.thinned, ((2, 0),), table=table(),
        rows=arg((1,), BadIndexes, (BadIndexes, (1, 0)), (BadIndexes, (FAR,))),
        columns=arg((0, 2), BadIndexes, (BadIndexes, (2, 0)), (BadIndexes, (0, FAR))),
    ),
    call(tables.mirrored, ((2, 2, 0), (4, 1, 7)), table=table()),
    call(tables.is_crooked, False, table=table()),
    call(tables.reduced, (((1, 0, 6), (0, 2, 0)), (1, 0), (2, 0, 0)), table=table()),
    call(texts.write_table, "4 1 7\n2 2 0", table=table()),
    call(
        texts.read_table, TABLE,
        text=("4 1 7\n2 2 0", [(BadRows, wrong) for wrong in (None, True, 4, "", [], TABLE, {}, b"4", "4\n")]),
    ),
]

STAGE_2 = [
    call(parts.parts, ((4, 2), (-3, 3), ((-3, 8),)), table=table()),
    call(
        parts.built, TABLE,
        told=arg(((4, 2), (-3, 3), ((-3, 8),)), BadParts, (BadParts, ((4,), (-3, 3), ((-3, 8),)))),
    ),
    call(
        parts.gain, 5, table=table(), row=index(0, 0, 1, BadIndexes), other=index(1, 0, 1, BadIndexes),
        column=index(0, 0, 2, BadIndexes), last=index(2, 0, 2, BadIndexes),
    ),
    call(parts.rooms, [[(None, 2), (2, 1), (1, None)], [(2, None), (1, 2), (None, 1)]], table=straight()),
    call(
        parts.changed, ((0, 2, 5), (1, 1, 4)), table=straight(), row=index(1, 0, 1), column=index(2, 0, 2),
        number=arg(4, BadNumber, (NotStraight, 5), (NotStraight, FAR)),
    ),
    call(least.firsts, (1, 2), table=table()),
    call(least.lasts, (1, 2), table=table()),
    call(least.least_entries, (1, 0), table=table()),
    call(
        least.least_in, (2, 0), table=table(), row=index(1, 0, 1), column=index(0, 0, 2), end=index(2, 1, 3),
    ),
    call(
        least.least_of_stretch, (0, 1, 2), table=table(), row=index(0, 0, 1), stop=index(2, 1, 2),
        column=index(1, 0, 2), end=index(3, 2, 3),
    ),
    call(least.looks, [(0, 0), (0, 1), (0, 2), (1, 0), (1, 1), (1, 2)], table=straight()),
    call(least.count_looks, 6, table=straight()),
    call(
        products.product, ((3, 4), (2, 3)), table=table(),
        other=arg(((2, 1), (2, 3), (2, 4)), BadTable, (BadSizes, SQUARE), (BadSizes, ((0, 0, 0),) * 2)),
    ),
    call(
        products.middles, [[1, 1], [2, 0]], table=table(),
        other=arg(((2, 1), (2, 3), (2, 4)), BadTable, (BadSizes, SQUARE), (BadSizes, ((0, 0, 0),) * 2)),
    ),
    call(
        products.last_middles, [[1, 1], [2, 0]], table=table(),
        other=arg(((2, 1), (2, 3), (2, 4)), BadTable, (BadSizes, SQUARE), (BadSizes, ((0, 0, 0),) * 2)),
    ),
    call(products.product_of, ((7, 4, 5), (3, 3, 1)), tables=chain([SQUARE, TABLE])),
    call(products.product_of, ((7, 4, 5), (3, 3, 1)), tables=chain((SQUARE, TABLE))),
    call(
        products.chain_way, (0, 1, 2), tables=chain([SQUARE, TABLE]), row=index(0, 0, 1), column=index(2, 0, 2),
    ),
    call(products.power, ((9, 7), (6, 3)), table=square(), count=number(3, 1, 10 ** 18)),
    call(
        products.way, (0, 1, 1), table=square(), place=index(0, 0, 1), other=index(1, 0, 1), count=number(2, 1, 60),
    ),
    call(
        products.way_cost, 14, table=square(),
        way=arg((0, 1, 0, 1), BadWay, (BadWay, (0,)), (BadWay, (0, 2)), (BadWay, (0, FAR))),
    ),
    call(products.least_round, (1, 1), table=square()),
]

GIVEN = [(0, 0, 2), (0, 1, 1), (1, 1, 4)]
STOCKS = arg((3, 4), BadStocks, (BadStocks, (3,)), (BadStocks, (-1, 8)), (BadStocks, (FAR, 1)))
WISHES = arg((2, 5, 0), BadWishes, (BadWishes, (2, 5)), (BadWishes, (2, 4, 0)), (BadWishes, (-1, 8, 0)))

STAGE_3 = [
    call(pairings.pairing_cost, 11, table=square(ANY_OF_THREE), pairing=pairing((2, 0, 1))),
    call(pairings.count_least_pairings, 1, table=squared()),
    call(pairings.uncrossings, [(1, 2)], table=squared(), pairing=pairing((0, 2, 1))),
    call(
        pairings.uncrossings_hold, True, table=squared(), pairing=pairing((0, 2, 1)),
        thing=judged([(1, 2)], [], [(2, 1)], [(1, 2), (1, 2)], [(1, FAR)]),
    ),
    call(pairings.best_pairs, (1, (0, 1), (0, 1)), table=straight(), count=number(2, 0, 2)),
    call(pairings.pair_sums, [0, 0, 1], table=straight()),
    call(pairings.pairs_at_price, (2, -3), table=straight(), price=arg(2, BadNumber)),
    call(pairings.pair_prices, [0, 1], table=straight()),
    call(fillings.corner_filling, GIVEN, table=table(), stocks=STOCKS, wishes=WISHES),
    call(
        fillings.filling_holds, True, table=table(), stocks=STOCKS, wishes=WISHES,
        thing=judged(GIVEN, [], GIVEN[:2], GIVEN[::-1], GIVEN * 2),
    ),
    call(
        fillings.filling_cost, 17, table=table(), stocks=STOCKS, wishes=WISHES,
        filling=arg(GIVEN, BadFilling, (BadFilling, []), (BadFilling, GIVEN[1:])),
    ),
    call(fillings.prices, ((1, 0), (-1, 1, -1)), table=straight(), stocks=STOCKS, wishes=WISHES),
    call(
        fillings.prices_hold, True, table=straight(), stocks=STOCKS, wishes=WISHES,
        thing=judged(((0, -1), (0, 2, 4)), ((0, 0), (0, 2, 4)), ((0, -1), (0, 2)), ((FAR, -1), (0, 2, 4))),
    ),
    call(tours.tour_cost, 11, table=places(), tour=tour((0, 2, 1))),
    call(tours.is_up_and_down, True, table=places(), tour=tour((0, 2, 1))),
    call(tours.up_and_down_tours, [(0, 1, 2, 3), (0, 1, 3, 2), (0, 2, 3, 1), (0, 3, 2, 1)], count=number(4, 2, 8)),
    call(tours.best_tour, (13, (0, 1, 2)), table=squared(ALONE)),
    call(tours.best_through, 6, table=squared(ALONE)),
    call(tours.tours_of_cost, 2, table=squared(ALONE, (TooMany, ((0,) * 8,) * 8))),
    call(
        climbs.climb_cost, 2, table=places(),
        climb=arg((0, 2), BadClimb, (BadClimb, (0, 1)), (BadClimb, (0, 2, 1)), (BadClimb, (0, FAR))),
    ),
    call(climbs.best_climb, (9, (0, 1, 2)), table=places(), count=number(2, 1, 2)),
    call(climbs.climb_sums, [2, 9], table=places()),
    call(climbs.last_steps, (None, 0, 0), table=places(), count=number(1, 1, 2)),
    call(climbs.best_of_all, (2, (0, 2)), table=places()),
    call(climbs.climbs_at_price, (1, 7), table=places(), price=arg(5, BadNumber)),
    call(climbs.climb_prices, [0], table=squared(ALONE)),
]

CALLS = STAGE_1 + STAGE_2 + STAGE_3
