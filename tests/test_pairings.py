"""Points 15 to 17: pairings, so many pairs, pairs at a price."""

import itertools
import math
import unittest

from straightleast.errors import BadNumber, BadPairing, BadSquare, BadTable, NotStraight
from straightleast.pairings import (
    best_pairs, count_least_pairings, pair_prices, pair_sums, pairing_cost, pairs_at_price, uncrossings,
    uncrossings_hold,
)

from tests.samples import (
    GREAT, Q, SIZES, SameTest, chance, deep_objects, kinds, odd_objects, sample_tables, soon, square_tables,
    straight_by_all_pairs, straight_squares, straight_table, tables_that_are_not_square, tables_that_are_not_straight,
    wrong_integers, wrong_integers_within, wrong_tables,
)


def cost(table, pairing):
    return sum(table[i][pairing[i]] for i in range(len(table)))


def all_costs(table):
    return [cost(table, pairing) for pairing in itertools.permutations(range(len(table)))]


def wrong_pairings(count):
    right = tuple(range(count))
    wrong = odd_objects() + deep_objects() + [(), 0, count, right + (count,), right[1:], list(right), set(right)]
    wrong += [right[:-1] + (count,), right[:-1] + (-1,), (0,) * (count + 1), dict.fromkeys(right, 0), [right], (right,)]
    for at in range(count):
        for entry in (True, False, None, "0", (0,), [0], {}, count, -1, GREAT, 10 ** 100, -10 ** 100):
            wrong.append(right[:at] + (entry,) + right[at + 1:])
    if count > 1:
        wrong += [(0,) * count, right[:-1] + (0,), (count - 1,) * count, (1,) + right[1:]]
    return wrong


class PairingCostTest(SameTest):
    def test_small(self):
        self.same(pairing_cost(((5,),), (0,)), 5)
        self.same(pairing_cost(Q, (0, 1, 2, 3)), 0)
        self.same(pairing_cost(Q, (3, 2, 1, 0)), 20)
        self.same(pairing_cost(((1, 2), (3, 4)), (1, 0)), 5)

    def test_every_pairing(self):
        for table in square_tables(63, 4):
            for pairing in itertools.permutations(range(len(table))):
                self.same(pairing_cost(table, pairing), cost(table, pairing))

    def test_eight_rows_and_columns(self):
        source = chance(64)
        for table in square_tables(65, 8, 8):
            for _ in range(20):
                pairing = tuple(source.sample(range(8), 8))
                self.same(pairing_cost(table, pairing), cost(table, pairing))

    def test_the_straight_one_is_a_least_one(self):
        for table in straight_squares(66, 7):
            straight = pairing_cost(table, tuple(range(len(table))))
            self.assertEqual(straight, min(all_costs(table)))

    def test_errors(self):
        self.assertRaises(BadPairing, pairing_cost, ((5,),), (False,))
        self.assertRaises(BadPairing, pairing_cost, ((5, 5), (5, 5)), (False, True))
        for table in tables_that_are_not_square():
            self.assertRaises(BadSquare, pairing_cost, table, None)
        with soon():
            for count in (1, 2, 4, 8):
                for thing in wrong_pairings(count):
                    with self.assertRaises(BadPairing):
                        pairing_cost(((0,) * count,) * count, thing)
            for thing in wrong_tables():
                with self.assertRaises(BadTable):
                    pairing_cost(thing, None)


class CountLeastPairingsTest(SameTest):
    def test_by_trying(self):
        ties = 0
        for table in straight_squares(67, 6):
            costs = all_costs(table)
            ties += costs.count(min(costs)) > 1
            self.same(count_least_pairings(table), costs.count(min(costs)))
        self.assertGreater(ties, 5)

    def test_all_small_tables(self):
        for flat in itertools.product(range(3), repeat=4):
            table = (flat[:2], flat[2:])
            if straight_by_all_pairs(table):
                self.same(count_least_pairings(table), 1 + (flat[0] + flat[3] == flat[1] + flat[2]))

    def test_one_if_all_gains_are_above_0(self):
        for count in range(1, 9):
            self.same(count_least_pairings(tuple(tuple(-i * j for j in range(count)) for i in range(count))), 1)

    def test_all_of_them_if_all_gains_are_0(self):
        for count in range(1, 9):
            sums = tuple(tuple(3 * i - j * j for j in range(count)) for i in range(count))
            self.same(count_least_pairings(sums), math.factorial(count))
            self.same(count_least_pairings(((7,) * count,) * count), math.factorial(count))

    def test_great_integers(self):
        self.same(count_least_pairings(((-GREAT, GREAT), (GREAT, -GREAT))), 1)
        self.same(count_least_pairings(((GREAT, GREAT), (GREAT, GREAT))), 2)

    def test_errors(self):
        for table in tables_that_are_not_square():
            for call, behind in (
                (count_least_pairings, ()), (uncrossings, (None,)), (uncrossings_hold, (None, None)),
            ):
                self.assertRaises(BadSquare, call, table, *behind)
        for table in tables_that_are_not_straight():
            if len(table) == len(table[0]):
                for call, behind in (
                    (count_least_pairings, ()), (uncrossings, (None,)), (uncrossings_hold, (None, None)),
                ):
                    self.assertRaises(NotStraight, call, table, *behind)


def exchanged(pairing, steps):
    """The pairing behind the exchanges, or None if one is no exchange of rows that cross."""
    columns = list(pairing)
    for i, k in steps:
        if not 0 <= i < k < len(columns) or columns[i] < columns[k]:
            return None
        columns[i], columns[k] = columns[k], columns[i]
    return columns


def ways_straight(pairing):
    """All lists of exchanges that lead to the straight pairing."""
    if list(pairing) == sorted(pairing):
        yield []
    for i, k in itertools.combinations(range(len(pairing)), 2):
        if pairing[i] > pairing[k]:
            columns = list(pairing)
            columns[i], columns[k] = columns[k], columns[i]
            for rest in ways_straight(columns):
                yield [(i, k)] + rest


class UncrossingsTest(SameTest):
    def goes_down(self, table, pairing, steps):
        columns = list(pairing)
        for i, k in steps:
            self.assertTrue(0 <= i < k < len(columns))
            self.assertGreater(columns[i], columns[k])
            before = cost(table, columns)
            columns[i], columns[k] = columns[k], columns[i]
            self.assertLessEqual(cost(table, columns), before)
        self.assertEqual(columns, list(range(len(columns))))

    def test_gone_through_one_by_one(self):
        source = chance(68)
        for table in straight_squares(69):
            count = len(table)
            every = list(itertools.permutations(range(min(count, 4))))
            if count > 4:
                every = [tuple(source.sample(range(count), count)) for _ in range(9)]
            for pairing in every + [tuple(reversed(range(count)))]:
                found = uncrossings(table, pairing)
                self.assertEqual(kinds(found), kinds([(i, k) for i, k in found]))
                self.goes_down(table, pairing, found)
                self.assertEqual(found == [], pairing == tuple(range(count)))
                self.assertIs(uncrossings_hold(table, pairing, found), True)

    def test_of_the_straight_one_there_are_none(self):
        for count in range(1, 9):
            table = ((0,) * count,) * count
            self.same(uncrossings(table, tuple(range(count))), [])
            self.assertIs(uncrossings_hold(table, tuple(range(count)), []), True)
            if count > 1:
                self.assertIs(uncrossings_hold(table, tuple(reversed(range(count))), []), False)

    def test_right_ones_that_are_other_ones(self):
        for count in range(1, 5):
            table = straight_table(chance(count), count, count)
            for pairing in itertools.permutations(range(count)):
                right = list(ways_straight(pairing))
                for steps in right[:300]:
                    self.assertIs(uncrossings_hold(table, pairing, steps), True)
                for steps in right[:60]:
                    for wrong in nearly(steps, count):
                        wanted = exchanged(pairing, wrong) == list(range(count))
                        self.assertIs(uncrossings_hold(table, pairing, wrong), wanted)

    def test_long_ones(self):
        pairing = tuple(reversed(range(8)))
        table = straight_table(chance(70), 8, 8)
        columns, steps = list(pairing), []
        while columns != sorted(columns):
            at = next(i for i in range(7) if columns[i] > columns[i + 1])
            columns[at], columns[at + 1] = columns[at + 1], columns[at]
            steps.append((at, at + 1))
        self.assertEqual(len(steps), 28)
        self.assertIs(uncrossings_hold(table, pairing, steps), True)
        for at in range(28):
            for wrong in (steps[:at] + steps[at + 1:], steps[:at] + [steps[at]] + steps[at:], steps[:at]):
                self.assertIs(uncrossings_hold(table, pairing, wrong), False)
        with soon():
            self.assertIs(uncrossings_hold(table, pairing, steps * 10 ** 5), False)
            self.assertIs(uncrossings_hold(table, pairing, [(0, 1)] * 10 ** 6), False)

    def test_one_exchange_wrong(self):
        pairing, right = (2, 1, 0), [(0, 2)]
        table = straight_table(chance(71), 3, 3)
        self.assertIs(uncrossings_hold(table, pairing, right), True)
        self.assertIs(uncrossings_hold(table, pairing, [(0, 1), (1, 2), (0, 1)]), True)
        for wrong in (
            [], [(2, 0)], [(0, 2), (0, 2)], [(0, 1)], [(0, 2), (1, 1)], [(0, 0), (0, 2)], [(0, 2), (0, 1)], [(0, 3)],
            [(-1, 0)], [(0, -1)], [(-3, 2)], [(-3, -1)], [[0, 2]], ((0, 2),), (0, 2), [0, 2], [(0, 2, 0)], [(0,)],
            [()], [(0, 2), ()], [(0, 2), None], [(0, 2), []], [(0, True)], [(False, 2)], [(0, "2")], [(0, (2,))],
            {(0, 2): True}, {(0, 2)}, "(0, 2)", None, True, 0, [(0, 10 ** 100)], [(-10 ** 100, 2)], {0: 2}, [{0: 2}],
        ):
            self.assertIs(uncrossings_hold(table, pairing, wrong), False, wrong)
        self.assertIs(uncrossings_hold(table, (0, 2, 1), [(-1, 0), (0, 2), (1, 2)]), False)
        self.assertIs(uncrossings_hold(table, (1, 0, 2), [(-3, -2)]), False)
        self.assertIs(uncrossings_hold(table, (1, 0, 2), [(False, True)]), False)
        self.assertIs(uncrossings_hold(table, (1, 0, 2), [(0, 1)]), True)
        self.assertIs(uncrossings_hold(((5,),), (0,), [(0, 0)]), False)

    def test_any_object(self):
        with soon():
            table = straight_table(chance(72), 4, 4)
            for thing in odd_objects() + deep_objects() + [[part] for part in odd_objects() + deep_objects()]:
                self.assertIs(uncrossings_hold(table, (1, 0, 3, 2), thing), False)

    def test_errors(self):
        with soon():
            for count in (1, 2, 4, 8):
                table = straight_table(chance(73), count, count)
                for thing in wrong_pairings(count):
                    with self.assertRaises(BadPairing):
                        uncrossings(table, thing)
                    with self.assertRaises(BadPairing):
                        uncrossings_hold(table, thing, [])


def nearly(steps, count):
    """The list with one exchange left out, put in, twice, the other way round."""
    for at in range(len(steps)):
        yield steps[:at] + steps[at + 1:]
        yield steps[:at + 1] + steps[at:]
        yield steps[:at] + [steps[at][::-1]] + steps[at + 1:]
    for at in range(len(steps) + 1):
        for step in itertools.product(range(-1, count + 1), repeat=2):
            yield steps[:at] + [step] + steps[at:]


def straight_tables(seed, most=8):
    source = chance(seed)
    sizes = [size for size in SIZES if max(size) <= most]
    found = [straight_table(source, *size, bound) for size in sizes for bound in (1, 2, 9, 10 ** 26)]
    return found + [table for table in sample_tables(seed) if straight_by_all_pairs(table) and len(table) <= most]


def best_by_trying(table, count):
    """The least (sum, rows, columns), the pairs being straight."""
    return min(
        (sum(table[i][j] for i, j in zip(rows, columns)), rows, columns)
        for rows in itertools.combinations(range(len(table)), count)
        for columns in itertools.combinations(range(len(table[0])), count)
    )


def least_of_all_pairs(table, count):
    """The least sum of so many entries, of which no two stand in one row or column, crossing ones too."""
    return min(
        sum(table[i][j] for i, j in zip(rows, columns))
        for rows in itertools.combinations(range(len(table)), count)
        for columns in itertools.permutations(range(len(table[0])), count)
    )


class BestPairsTest(SameTest):
    def test_small(self):
        self.same(best_pairs(((5,),), 0), (0, (), ()))
        self.same(best_pairs(((5,),), 1), (5, (0,), (0,)))
        self.same(best_pairs(((-5,),), 1), (-5, (0,), (0,)))
        self.same(best_pairs(Q, 2), (0, (0, 1), (0, 1)))
        self.same(best_pairs(Q, 0), (0, (), ()))
        self.same(best_pairs(((3, 1, 2),), 1), (1, (0,), (1,)))
        self.same(best_pairs(((3,), (1,), (2,)), 1), (1, (1,), (0,)))

    def test_the_first_rows_and_then_the_first_columns(self):
        self.same(best_pairs(((1, 0), (0, -1)), 1), (-1, (1,), (1,)))
        self.same(best_pairs(((1, 0), (0, -1), (1, -1)), 1), (-1, (1,), (1,)))
        self.same(best_pairs(((0,) * 3,) * 3, 2), (0, (0, 1), (0, 1)))
        self.same(best_pairs(((0, 0, -1), (0, 0, -1), (0, 0, -1)), 2), (-1, (0, 1), (0, 2)))
        self.same(best_pairs(((0, 0, 0), (1, 1, 0), (0, 0, -1)), 2), (-1, (0, 2), (0, 2)))

    def test_by_trying(self):
        for table in straight_tables(74, 5):
            for count in range(min(len(table), len(table[0])) + 1):
                self.same(best_pairs(table, count), best_by_trying(table, count))

    def test_eight_rows_and_columns(self):
        source = chance(75)
        for bound in (1, 9):
            for size in ((8, 8), (8, 7), (7, 8)):
                table = straight_table(source, *size, bound)
                for count in range(min(size) + 1):
                    self.same(best_pairs(table, count), best_by_trying(table, count))

    def test_no_crossing_pairs_cost_less(self):
        for table in straight_tables(76, 5)[::2]:
            for count in range(min(len(table), len(table[0])) + 1):
                self.same(pair_sums(table)[count], least_of_all_pairs(table, count))

    def test_how_many(self):
        source = chance(77)
        for height, width in SIZES:
            table = straight_table(source, height, width)
            most = min(height, width)
            self.assertEqual(len(pair_sums(table)), most + 1)
            total, rows, columns = best_pairs(table, most)
            self.assertEqual((len(rows), len(columns)), (most, most))
            for count in (-1, most + 1, most + 2, 10 ** 100, -10 ** 100, True, False, None):
                self.assertRaises(BadNumber, best_pairs, table, count)

    def test_errors(self):
        with soon():
            for thing in wrong_integers_within(0, 4):
                with self.assertRaises(BadNumber):
                    best_pairs(Q, thing)
            for thing in wrong_integers():
                with self.assertRaises(BadNumber):
                    pairs_at_price(Q, thing)
        for table in tables_that_are_not_straight():
            for call, behind in ((best_pairs, (99,)), (pair_sums, ()), (pairs_at_price, (None,)), (pair_prices, ())):
                self.assertRaises(NotStraight, call, table, *behind)


class PairSumsTest(SameTest):
    def test_small(self):
        self.same(pair_sums(Q), [0, 0, 0, 0, 0])
        self.same(pair_sums(((5,),)), [0, 5])
        self.same(pair_sums(((-5, 3),)), [0, -5])
        self.same(pair_sums(((0, 2, 5), (1, 1, 3))), [0, 0, 1])
        self.same(pair_prices(((5,),)), [5])
        self.same(pair_prices(((0, 2, 5), (1, 1, 3))), [0, 1])

    def test_sums_and_prices(self):
        for table in straight_tables(78):
            found = pair_sums(table)
            most = min(len(table), len(table[0]))
            self.same(found, [best_pairs(table, count)[0] for count in range(most + 1)])
            prices = pair_prices(table)
            self.same(prices, [found[count + 1] - found[count] for count in range(most)])
            self.assertEqual(prices, sorted(prices))

    def test_one_row_or_one_column(self):
        source = chance(79)
        for length in range(1, 9):
            for table in (straight_table(source, 1, length), straight_table(source, length, 1)):
                least = min(entry for row in table for entry in row)
                self.same(pair_sums(table), [0, least])
                self.same(pair_prices(table), [least])
                self.same(pairs_at_price(table, least), (0, 0))
                self.same(pairs_at_price(table, least + 1), (1, -1))
                self.same(pairs_at_price(table, least - 1), (0, 0))


class PairsAtPriceTest(SameTest):
    def at_price(self, table, price):
        sums = [least_of_all_pairs(table, count) for count in range(min(len(table), len(table[0])) + 1)]
        left = [total - price * count for count, total in enumerate(sums)]
        return (left.index(min(left)), min(left))

    def test_at_above_and_below_what_a_pair_adds(self):
        for table in straight_tables(80, 4)[::2]:
            told = pair_prices(table)
            for price in {step + one for one in told for step in (-1, 0, 1)} | {0, -1, 1, -50, 50, 10 ** 27, -10 ** 27}:
                self.same(pairs_at_price(table, price), self.at_price(table, price))

    def test_the_fewest_pairs(self):
        self.same(pairs_at_price(Q, 0), (0, 0))
        self.same(pairs_at_price(Q, 1), (4, -4))
        self.same(pairs_at_price(Q, -1), (0, 0))
        self.same(pairs_at_price(((5,) * 3,) * 3, 5), (0, 0))
        self.same(pairs_at_price(((5,) * 3,) * 3, 6), (3, -3))

    def test_great_prices(self):
        self.same(pairs_at_price(Q, 10 ** 29), (4, -4 * 10 ** 29))
        self.same(pairs_at_price(Q, -10 ** 29), (0, 0))
        self.same(pairs_at_price(Q, -10 ** 100), (0, 0))


if __name__ == "__main__":
    unittest.main()
