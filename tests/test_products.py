"""Points 12 to 14: least sums over a middle, chains, powers, ways, rounds."""

import fractions
import itertools
import unittest

from straightleast.errors import BadChain, BadIndex, BadNumber, BadSizes, BadSquare, BadTable, BadWay
from straightleast.products import (
    chain_way, last_middles, least_round, middles, power, product, product_of, way, way_cost,
)

from tests.samples import (
    GREAT, Q, SIZES, SameTest, any_table, chance, deep_objects, odd_objects, small_tables, soon, square_tables,
    straight_by_all_pairs, straight_table, tables_that_are_not_square, wrong_integers_within, wrong_tables,
)


def sums(one, two, i, j):
    return [one[i][k] + two[k][j] for k in range(len(two))]


def product_by_trying(one, two):
    return tuple(tuple(min(sums(one, two, i, j)) for j in range(len(two[0]))) for i in range(len(one)))


def pairs_of_tables(seed):
    """Tables of which the second has as many rows as the first has columns."""
    source = chance(seed)
    for height, width in SIZES:
        for last in (1, 2, source.randint(3, 8), 8):
            for bound in (1, 9, 10 ** 27):
                yield any_table(source, height, width, bound), any_table(source, width, last, bound)
                yield straight_table(source, height, width, bound), straight_table(source, width, last, bound)


class ProductTest(SameTest):
    def test_small(self):
        self.same(product(Q, Q)[0][2], 2)
        self.same(product(((5,),), ((-7,),)), ((-2,),))
        self.same(product(((1, 2),), ((5,), (3,))), ((5,),))
        self.same(product(((1,), (2,)), ((5, 3),)), ((6, 4), (7, 5)))
        self.same(middles(Q, Q), [[0, 0, 1, 1], [0, 1, 1, 2], [1, 1, 2, 2], [1, 2, 2, 3]])
        self.same(last_middles(Q, Q), [[0, 1, 1, 2], [1, 1, 2, 2], [1, 2, 2, 3], [2, 2, 3, 3]])
        self.same(middles(((5,), (6,)), ((1, 2, 3),)), [[0, 0, 0], [0, 0, 0]])
        self.same(last_middles(((5,), (6,)), ((1, 2, 3),)), [[0, 0, 0], [0, 0, 0]])

    def test_sums_that_are_the_same_by_several_middles(self):
        one, two = ((0, 1, 2, 3),), ((3,), (2,), (1,), (0,))
        self.same(product(one, two), ((3,),))
        self.same(middles(one, two), [[0]])
        self.same(last_middles(one, two), [[3]])
        self.same(middles(((1, 0, 0, 0, 1),), ((0,),) * 5), [[1]])
        self.same(last_middles(((1, 0, 0, 0, 1),), ((0,),) * 5), [[3]])

    def test_by_trying(self):
        for one, two in pairs_of_tables(50):
            self.same(product(one, two), product_by_trying(one, two))
            first, last = middles(one, two), last_middles(one, two)
            for found in (first, last):
                self.assertEqual([len(line) for line in found], [len(two[0])] * len(one))
            for i, j in itertools.product(range(len(one)), range(len(two[0]))):
                all_sums = sums(one, two, i, j)
                places = [k for k, number in enumerate(all_sums) if number == min(all_sums)]
                self.assertEqual((first[i][j], last[i][j]), (places[0], places[-1]))

    def test_straight_tables(self):
        count = 0
        for one, two in pairs_of_tables(51):
            if straight_by_all_pairs(one) and straight_by_all_pairs(two):
                count += 1
                self.assertTrue(straight_by_all_pairs(product(one, two)))
                for found in (middles(one, two), last_middles(one, two)):
                    for line in found + [list(column) for column in zip(*found)]:
                        self.assertEqual(line, sorted(line))
        self.assertGreater(count, 500)

    def test_tables_that_are_not_straight(self):
        self.same(product(Q[::-1], Q[::-1]), product_by_trying(Q[::-1], Q[::-1]))
        self.same(middles(((0, 0), (0, 1)), ((0, 0), (0, 1))), [[0, 0], [0, 0]])

    def test_sizes(self):
        for call in (product, middles, last_middles):
            for height, width in SIZES:
                for other in range(1, 9):
                    one, two = ((0,) * width,) * height, ((0,) * 3,) * other
                    if other == width:
                        self.assertEqual(len(call(one, two)), height)
                    else:
                        self.assertRaises(BadSizes, call, one, two)

    def test_errors(self):
        with soon():
            for call in (product, middles, last_middles):
                for thing in wrong_tables():
                    for told in ((thing, Q), (thing, None), (Q, thing), (((0, 0),), thing)):
                        with self.assertRaises(BadTable):
                            call(*told)


def some_chains(seed):
    """Chains of one to ten tables, of small sizes at the beginning."""
    source = chance(seed)
    for count in range(1, 11):
        for bound in (1, 2, 9):
            most = 3 if count < 6 else 2
            sizes = [source.randint(1, most) for _ in range(count + 1)]
            yield [any_table(source, *size, bound) for size in zip(sizes, sizes[1:])]
            yield [straight_table(source, *size, bound) for size in zip(sizes, sizes[1:])]


def ways_by_trying(tables, row, column):
    """All ways through the chain with their sums."""
    for between in itertools.product(*[range(len(table)) for table in tables[1:]]):
        places = (row, *between, column)
        yield sum(table[i][j] for table, i, j in zip(tables, places, places[1:])), places


def bracketed(source, tables):
    """The product, bracket by bracket, by product alone."""
    tables = list(tables)
    while len(tables) > 1:
        at = source.randrange(len(tables) - 1)
        tables[at:at + 2] = [product(tables[at], tables[at + 1])]
    return tables[0]


class ChainTest(SameTest):
    def test_small(self):
        self.same(product_of([Q]), Q)
        self.same(product_of((Q,)), Q)
        self.same(product_of([Q, Q, Q])[0][3], 3)
        self.same(product_of([((1, 2),), ((5,), (3,)), ((0, 10),)]), ((5, 15),))
        self.same(chain_way([Q], 1, 3), (1, 3))
        self.same(chain_way((Q, Q), 0, 2), (0, 1, 2))
        self.same(chain_way((Q, Q), 0, 3), (0, 1, 3))
        self.same(chain_way([((0,) * 8,) * 8] * 10, 7, 5), (7,) + (0,) * 9 + (5,))

    def test_any_brackets(self):
        source = chance(52)
        for tables in some_chains(53):
            found = product_of(tables)
            self.same(found, product_of(tuple(tables)))
            for _ in range(3):
                self.same(found, bracketed(source, tables))
        for count in range(1, 11):
            sizes = [source.randint(1, 8) for _ in range(count + 1)]
            tables = [any_table(source, *size) for size in zip(sizes, sizes[1:])]
            self.same(product_of(tables), bracketed(source, tables))

    def test_the_first_way_by_trying(self):
        for tables in some_chains(54):
            found = product_of(tables)
            for i, j in itertools.product(range(len(tables[0])), range(len(tables[-1][0]))):
                least, places = min(ways_by_trying(tables, i, j))
                self.same(found[i][j], least)
                self.same(chain_way(tables, i, j), places)
                self.same(chain_way(tuple(tables), i, j), places)

    def test_none_and_eleven(self):
        for kind in (list, tuple):
            for count in range(14):
                tables = kind([Q] * count)
                if 1 <= count <= 10:
                    self.assertEqual(len(chain_way(tables, 0, 0)), count + 1)
                    self.assertEqual(len(product_of(tables)), 4)
                else:
                    self.assertRaises(BadChain, product_of, tables)
                    self.assertRaises(BadChain, chain_way, tables, 0, 0)

    def test_one_that_does_not_fit(self):
        for count in range(2, 11):
            for at in range(count):
                for wrong in (((0,) * 3,) * 4, ((0,) * 4,) * 3, ((0,),), ((0,) * 5,) * 5):
                    tables = [Q] * count
                    tables[at] = wrong
                    if at == 0 and len(wrong[0]) == 4 or at == count - 1 and len(wrong) == 4:
                        product_of(tables)
                    else:
                        self.assertRaises(BadChain, product_of, tables)
                        self.assertRaises(BadChain, chain_way, tuple(tables), 9, 9)

    def test_one_that_is_no_table(self):
        with soon():
            for thing in wrong_tables():
                for tables in ([thing], (thing,), [Q, thing], (thing, Q), [Q, Q, thing]):
                    with self.assertRaises(BadChain):
                        product_of(tables)
                    with self.assertRaises(BadChain):
                        chain_way(tables, None, None)

    def test_what_is_no_chain(self):
        with soon():
            for thing in odd_objects() + deep_objects() + [Q, 0, {0: Q}, {"a": Q}, "Q"]:
                if thing == (((0,),),):
                    continue
                with self.assertRaises(BadChain):
                    product_of(thing)
                with self.assertRaises(BadChain):
                    chain_way(thing, 0, 0)
        self.same(product_of((((0,),),)), ((0,),))

    def test_the_sequence_of_the_errors(self):
        tables = [((0,) * 3,) * 2, ((0,) * 5,) * 3]
        with soon():
            for thing in wrong_integers_within(0, 1):
                with self.assertRaises(BadIndex):
                    chain_way(tables, thing, None)
            for thing in wrong_integers_within(0, 4):
                with self.assertRaises(BadIndex):
                    chain_way(tables, 0, thing)
        self.assertRaises(BadChain, chain_way, tables[::-1], -1, -1)
        self.same(chain_way(tables, 1, 4), (1, 0, 4))


class PowerTest(SameTest):
    def test_small(self):
        self.same(power(Q, 3)[0][3], 3)
        self.same(power(Q, 1), Q)
        self.same(power(((5,),), 7), ((35,),))
        self.same(power(((-5,),), 10 ** 18), ((-5 * 10 ** 18,),))
        self.same(power(((2, 3), (4, 1)), 2), ((4, 4), (5, 2)))

    def test_one_by_one(self):
        for table in square_tables(55):
            found = table
            for count in range(1, 62):
                if count in (1, 2, 3, 4, 5, 6, 7, 8, 15, 16, 31, 60, 61):
                    self.same(power(table, count), found)
                found = product_by_trying(found, table)

    def test_great_counts_are_soon_told(self):
        with soon():
            for table in square_tables(56):
                for count in (10 ** 18, 10 ** 18 - 1, 2 ** 59, 2 ** 59 - 1, 10 ** 9 + 7):
                    half = power(table, count // 2)
                    whole = product_by_trying(half, half)
                    if count % 2 == 1:
                        whole = product_by_trying(whole, table)
                    self.same(power(table, count), whole)

    def test_entries_below_0(self):
        self.same(power(((0, -1), (-1, 0)), 10 ** 18), ((-10 ** 18, -10 ** 18 + 1), (-10 ** 18 + 1, -10 ** 18)))
        self.same(power(((1, -3), (1, 1)), 4), ((-4, -4), (0, -4)))

    def test_errors(self):
        self.assertRaises(BadNumber, power, Q, 0)
        self.assertRaises(BadNumber, power, Q, 10 ** 18 + 1)
        with soon():
            for thing in wrong_integers_within(1, 10 ** 18):
                with self.assertRaises(BadNumber):
                    power(Q, thing)
        for table in tables_that_are_not_square():
            self.assertRaises(BadSquare, power, table, 0)


class WayTest(SameTest):
    def test_small(self):
        self.same(way(Q, 0, 3, 1), (0, 3))
        self.same(way(Q, 0, 3, 2), (0, 1, 3))
        self.same(way(Q, 0, 3, 3), (0, 1, 2, 3))
        self.same(way(Q, 0, 3, 4), (0, 0, 1, 2, 3))
        self.same(way(((5,),), 0, 0, 60), (0,) * 61)
        self.same(way_cost(Q, (0, 3)), 9)
        self.same(way_cost(Q, (3, 0, 1, 1)), 10)

    def test_the_first_by_trying(self):
        for table in square_tables(57, 3) + [table for table in small_tables() if len(table) == len(table[0])]:
            for count in range(1, 6 if len(table) < 3 else 5):
                for i, j in itertools.product(range(len(table)), repeat=2):
                    least, places = min(ways_by_trying([table] * count, i, j))
                    self.same(way(table, i, j, count), places)
                    self.assertEqual(power(table, count)[i][j], least)

    def test_its_cost_is_that_of_the_power(self):
        for table in square_tables(58):
            for count in (1, 2, 7, 59, 60):
                found = power(table, count)
                for i, j in ((0, len(table) - 1), (len(table) - 1, 0), (0, 0)):
                    places = way(table, i, j, count)
                    self.assertEqual((len(places), places[0], places[-1]), (count + 1, i, j))
                    self.same(way_cost(table, places), found[i][j])

    def test_sixty_steps_sixty_one_and_none(self):
        self.assertEqual(len(way(Q, 1, 2, 60)), 61)
        for count in (0, 61, 62, -1, 10 ** 18, True):
            self.assertRaises(BadNumber, way, Q, 1, 2, count)

    def test_errors(self):
        with soon():
            for thing in wrong_integers_within(0, 3):
                with self.assertRaises(BadIndex):
                    way(Q, thing, None, None)
                with self.assertRaises(BadIndex):
                    way(Q, 0, thing, 0)
            for thing in wrong_integers_within(1, 60):
                with self.assertRaises(BadNumber):
                    way(Q, 0, 0, thing)
        for table in tables_that_are_not_square():
            self.assertRaises(BadSquare, way, table, 99, 99, 99)


class WayCostTest(SameTest):
    def test_by_the_steps(self):
        source = chance(59)
        for table in square_tables(60):
            for length in (2, 3, 10, 61):
                places = tuple(source.randrange(len(table)) for _ in range(length))
                wanted = sum(table[places[at]][places[at + 1]] for at in range(length - 1))
                self.same(way_cost(table, places), wanted)

    def test_too_short_and_too_long(self):
        for length in range(70):
            if 2 <= length <= 61:
                self.same(way_cost(Q, (1, 2) + (3,) * (length - 2)), 1 + (length > 2))
            else:
                self.assertRaises(BadWay, way_cost, Q, (1,) * length)

    def test_places_beyond_truths_and_lists(self):
        for wrong in (4, -1, 5, GREAT, -GREAT, 10 ** 100, True, False, None, "1", (1,), [1], {}):
            for at in range(3):
                places = [0, 1, 2]
                places[at] = wrong
                self.assertRaises(BadWay, way_cost, Q, tuple(places))
        for wrong in ([0, 1], {0: 1, 1: 1}, "01", range(2), {0, 1}, b"01", [(0, 1)], ((0, 1),), 0, (0,), ()):
            self.assertRaises(BadWay, way_cost, Q, wrong)
        with soon():
            for thing in odd_objects() + deep_objects():
                with self.assertRaises(BadWay):
                    way_cost(Q, thing)
        for table in tables_that_are_not_square():
            self.assertRaises(BadSquare, way_cost, table, None)
        self.assertRaises(BadWay, way_cost, ((5,),), (0, 1))


def least_mean_of_all_rounds(table):
    means = []
    for count in range(1, len(table) + 1):
        for places in itertools.permutations(range(len(table)), count):
            steps = zip(places, places[1:] + places[:1])
            means.append(fractions.Fraction(sum(table[i][j] for i, j in steps), count))
    return min(means)


class LeastRoundTest(SameTest):
    def test_small(self):
        self.same(least_round(Q), (0, 1))
        self.same(least_round(((5,),)), (5, 1))
        self.same(least_round(((0,),)), (0, 1))
        self.same(least_round(((-5,),)), (-5, 1))
        self.same(least_round(((9, 2), (3, 9))), (5, 2))
        self.same(least_round(((9, 2), (4, 9))), (3, 1))
        self.same(least_round(((9, -2), (-3, 9))), (-5, 2))
        self.same(least_round(((9, -2), (2, 9))), (0, 1))
        self.same(least_round(((9, 1, 9), (9, 9, 1), (2, 9, 9))), (4, 3))
        self.same(least_round(((9, 2, 9, 9), (9, 9, 2, 9), (9, 9, 9, 2), (0, 9, 9, 9))), (3, 2))

    def test_the_only_round_that_is_least_goes_by_all_places(self):
        for count in range(2, 9):
            table = tuple(tuple(0 if j == (i + 1) % count else 99 for j in range(count)) for i in range(count))
            self.same(least_round(table), (0, 1))
            first = (table[0][0], 1) + table[0][2:] if count > 2 else (99, 1)
            self.same(least_round((first,) + table[1:]), (1, count))

    def test_by_all_rounds(self):
        tables = square_tables(61, 5) + [table for table in small_tables() if len(table) == len(table[0])]
        below = between = 0
        for table in tables:
            mean = least_mean_of_all_rounds(table)
            below += mean < 0
            between += mean.denominator > 1
            self.same(least_round(table), (mean.numerator, mean.denominator))
        self.assertGreater(below, 10)
        self.assertGreater(between, 5)

    def test_all_rounds_of_eight_places(self):
        for table in square_tables(62, 7, 6)[::4]:
            mean = least_mean_of_all_rounds(table)
            self.same(least_round(table), (mean.numerator, mean.denominator))

    def test_errors(self):
        for table in tables_that_are_not_square():
            self.assertRaises(BadSquare, least_round, table)
        with soon():
            for thing in wrong_tables():
                for call, behind in ((least_round, ()), (power, (0,)), (way, (9, 9, 9)), (way_cost, (None,))):
                    with self.assertRaises(BadTable):
                        call(thing, *behind)


if __name__ == "__main__":
    unittest.main()
