"""Point 3, the main property, over the whole program, and every example of the document."""

import itertools
import unittest

from straightleast.climbs import climb_prices, climb_sums
from straightleast.fillings import corner_filling, filling_cost
from straightleast.joins import best_joins, grows, join_cost, least_joins, splits
from straightleast.least import firsts, lasts, looks
from straightleast.letters import letter_strands, window_table
from straightleast.orders import first_order, no_order
from straightleast.pairings import best_pairs, count_least_pairings, pair_prices, pair_sums, pairing_cost
from straightleast.parts import parts, rooms
from straightleast.posts import best_posts, post_sums, posts_cost, stretch_table
from straightleast.products import least_round, middles, last_middles, power, product, product_of
from straightleast.session import Session
from straightleast.strands import combed, counts_table, joined, rest_of, strands_of
from straightleast.tables import count_crossings, first_crossing, is_straight
from straightleast.tours import best_through, best_tour, tour_cost

from tests.samples import Q, SIZES, SameTest, chance, sample_tables, straight_by_all_pairs, straight_table
from tests.test_strands import any_strands


def straight_tables(seed, many=2, most=8):
    source = chance(seed)
    return [
        straight_table(source, height, width, bound)
        for height, width in SIZES if height <= most and width <= most
        for bound in (1, 9) for _ in range(many)
    ]


def rises(numbers):
    return all(one <= two for one, two in zip(numbers, numbers[1:]))


class ExamplesTest(SameTest):
    def test_tables(self):
        self.assertIs(is_straight(Q), True)
        self.same(Q, tuple(tuple((i - j) ** 2 for j in range(4)) for i in range(4)))

    def test_parts(self):
        self.same(parts(Q), ((0, 1, 4, 9), (1, 4, 9), ((2, 2, 2), (2, 2, 2), (2, 2, 2))))
        self.same(rooms(Q)[0][0], (None, 2))
        self.same(rooms(Q)[0][1], (2, 2))

    def test_least_sums(self):
        self.same(firsts(Q), (0, 1, 2, 3))
        self.same(looks(Q)[:6], [(1, 0), (1, 1), (1, 2), (1, 3), (0, 0), (0, 1)])
        self.same(product(Q, Q)[0][2], 2)
        self.same(middles(Q, Q)[0][2], 1)
        self.same(power(Q, 3)[0][3], 3)
        self.same(least_round(Q), (0, 1))

    def test_ways_strands_and_letters(self):
        self.same(best_tour(Q), (10, (0, 1, 3, 2)))
        self.same(climb_sums(Q), [9, 5, 3])
        self.same(joined((1, 0, 2), (1, 0, 2)), (1, 0, 2))
        self.same(joined((1, 0, 2), (0, 2, 1)), (2, 0, 1))
        self.same(rest_of((1, 0, 2), (2, 0, 1)), (0, 2, 1))
        self.same(combed(3, (0, 1)), (2, 0, 1))
        self.same(combed(3, (0, 1, 0, 1)), (2, 1, 0))
        self.same(counts_table((1, 0)), ((0, 1, 2), (0, 1, 1), (0, 0, 0)))
        self.same(window_table("ab", "ba"), [[0, 1, 1], [0, 1], [0]])
        self.same(letter_strands("ab", "b"), (0, 2, 1))
        self.same(letter_strands("ab", "ba"), (0, 2, 1, 3))

    def test_joins_and_posts(self):
        self.same(join_cost(Q, ((0, 1), 2)), 4 + 9)
        self.assertIs(grows(Q), True)
        self.same(least_joins(Q), [[0, 4, 13], [0, 4], [0]])
        self.same(splits(Q), [[None, 1, 1], [None, 2], [None]])
        self.same(best_joins(Q), (13, (0, (1, 2))))
        self.same(posts_cost((0, 1, 5, 6), (1, 2)), 2)
        self.same(best_posts((0, 1, 5, 6), 2), (2, (0, 2)))
        self.same(post_sums((0, 1, 5, 6)), [10, 2, 1, 0])


class MainPropertyTest(SameTest):
    def test_straight_exactly_if_no_crossing_of_neighbours_pays(self):
        for table in sample_tables(430):
            straight = straight_by_all_pairs(table)
            self.assertIs(is_straight(table), straight)
            self.assertIs(first_crossing(table) is None, straight)
            self.assertIs(count_crossings(table) == 0, straight)
            self.assertIs(all(gain >= 0 for row in parts(table)[2] for gain in row), straight)

    def test_the_columns_of_the_leasts_never_fall(self):
        for table in straight_tables(431):
            self.assertTrue(rises(firsts(table)))
            self.assertTrue(rises(lasts(table)))

    def test_the_straight_pairing_and_straight_pairs_are_least(self):
        for table in straight_tables(432, 1, 5):
            if len(table) == len(table[0]):
                costs = [pairing_cost(table, some) for some in itertools.permutations(range(len(table)))]
                self.assertEqual(costs[0], min(costs))
                self.assertEqual(count_least_pairings(table), costs.count(costs[0]))
            for count in range(min(len(table), len(table[0])) + 1):
                sums = [
                    sum(table[row][column] for row, column in zip(rows, columns))
                    for rows in itertools.combinations(range(len(table)), count)
                    for columns in itertools.permutations(range(len(table[0])), count)
                ]
                self.assertEqual(best_pairs(table, count)[0], min(sums))

    def test_some_tour_that_rises_and_falls_is_least(self):
        for table in straight_tables(433, 2, 6):
            if len(table) == len(table[0]) > 1:
                rest = range(1, len(table))
                costs = [tour_cost(table, (0,) + tour) for tour in itertools.permutations(rest)]
                self.assertEqual(best_tour(table)[0], min(costs))
                self.assertEqual(best_through(table), sum(table[at][at + 1] for at in range(len(table) - 1)))

    def test_climbs_and_pairs_save_less_and_less(self):
        for table in straight_tables(434):
            self.assertTrue(rises(pair_prices(table)))
            sums = pair_sums(table)
            self.assertTrue(rises([two - one for one, two in zip(sums, sums[1:])]))
            if len(table) == len(table[0]) > 1:
                self.assertTrue(rises(climb_prices(table)[::-1]))

    def test_least_sums_of_straight_tables_are_straight(self):
        source = chance(435)
        for one in straight_tables(436, 1):
            other = straight_table(source, len(one[0]), source.randint(1, 8))
            found = product(one, other)
            self.assertTrue(straight_by_all_pairs(found))
            for told in (middles(one, other), last_middles(one, other)):
                self.assertTrue(all(rises(row) for row in told))
                self.assertTrue(all(rises(column) for column in zip(*told)))
            if len(one) == len(one[0]):
                self.assertTrue(straight_by_all_pairs(power(one, 10 ** 18)))
                self.same(product_of([one, one, one]), power(one, 3))

    def test_the_tables_of_strands(self):
        source = chance(437)
        for count in range(1, 8):
            for _ in range(30):
                one, two = any_strands(source, count), any_strands(source, count)
                found = product(counts_table(one), counts_table(two))
                self.assertTrue(straight_by_all_pairs(found))
                self.same(strands_of(found), joined(one, two))

    def test_corner_fillings_are_least(self):
        source = chance(438)
        for table in straight_tables(439, 1, 3):
            stocks = tuple(source.randint(0, 2) for _ in table)
            left, wishes = sum(stocks), []
            for _ in table[0][1:]:
                wishes.append(source.randint(0, left))
                left -= wishes[-1]
            wishes = tuple(wishes + [left])
            rows = [row for row, stock in enumerate(stocks) for _ in range(stock)]
            columns = [column for column, wish in enumerate(wishes) for _ in range(wish)]
            costs = {sum(table[row][column] for row, column in zip(rows, some)) for some in set(
                itertools.permutations(columns))}
            found = corner_filling(table, stocks, wishes)
            self.assertEqual(filling_cost(table, stocks, wishes, found), min(costs))


class TogetherTest(SameTest):
    """What the modules tell of one another."""

    def test_straight_tables_are_in_order(self):
        for table in straight_tables(440, 1, 5):
            self.assertIs(no_order(table), None)
            self.same(first_order(table)[0], min(first_order(table)[0], tuple(range(len(table)))))

    def test_a_session_with_the_table_of_posts(self):
        table = stretch_table((0, 1, 5, 6))
        held = Session(table)
        self.same(held.table(), table)
        self.same([held.pairs(count)[0] for count in range(6)], pair_sums(table))
        held.add(counts_table((3, 0, 2, 1)))
        self.assertTrue(straight_by_all_pairs(held.table()))


if __name__ == "__main__":
    unittest.main()
