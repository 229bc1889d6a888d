"""Points 20 and 21: tours, those that rise and fall, and the least of all."""

import itertools
import unittest

from straightleast.errors import BadNumber, BadSquare, BadTable, BadTour, NotStraight, TooMany
from straightleast.tours import best_through, best_tour, is_up_and_down, tour_cost, tours_of_cost, up_and_down_tours

from tests.samples import (
    GREAT, Q, SameTest, chance, deep_objects, odd_objects, small_tables, soon, square_tables, straight_by_all_pairs,
    straight_squares, straight_table, tables_that_are_not_square, tables_that_are_not_straight, wrong_integers_within,
    wrong_tables,
)


def all_tours(count):
    return [(0,) + rest for rest in itertools.permutations(range(1, count))]


def cost(table, tour):
    total = table[tour[-1]][0]
    for at in range(len(tour) - 1):
        total += table[tour[at]][tour[at + 1]]
    return total


def rises_and_falls(tour):
    top = tour.index(max(tour))
    rising = all(tour[at] < tour[at + 1] for at in range(top))
    return rising and all(tour[at] > tour[at + 1] for at in range(top, len(tour) - 1))


def wrong_tours(count):
    right = tuple(range(count))
    wrong = odd_objects() + deep_objects() + [(), 0, count, right + (0,), right + (count,), right[:-1], list(right)]
    wrong += [set(right), dict.fromkeys(right, 0), (right,), [right], right[1:] + (0,), right[::-1], (0,) * count]
    wrong += [right * 2, right[:-1] + (right[-2],), (1,) + right[1:], range(count)]
    for at in range(count):
        for entry in (True, False, None, "0", (0,), [0], {}, count, -1, GREAT, 10 ** 100, -10 ** 100):
            wrong.append(right[:at] + (entry,) + right[at + 1:])
    return wrong


def wrong_of_both(calls):
    """Each call with what stands behind its table, and tables that are no square ones of two places or more."""
    for call, behind in calls:
        for table in tables_that_are_not_square() + [((5,),), ((0,),), ((-GREAT,),)]:
            yield call, (table, *behind)


class TourCostTest(SameTest):
    def test_small(self):
        self.same(tour_cost(Q, (0, 1, 3, 2)), 10)
        self.same(tour_cost(Q, (0, 1, 2, 3)), 12)
        self.same(tour_cost(((1, 2), (3, 4)), (0, 1)), 5)
        self.same(tour_cost(((9, 1, 2), (3, 9, 4), (5, 6, 9)), (0, 1, 2)), 10)
        self.same(tour_cost(((9, 1, 2), (3, 9, 4), (5, 6, 9)), (0, 2, 1)), 11)

    def test_all_tours(self):
        for table in square_tables(88, 5, 2):
            for tour in all_tours(len(table)):
                self.same(tour_cost(table, tour), cost(table, tour))
                self.same(is_up_and_down(table, tour), rises_and_falls(tour))

    def test_tours_of_eight_places(self):
        source = chance(89)
        for table in square_tables(90, 8, 6):
            for _ in range(20):
                tour = (0,) + tuple(source.sample(range(1, len(table)), len(table) - 1))
                self.same(tour_cost(table, tour), cost(table, tour))
                self.same(is_up_and_down(table, tour), rises_and_falls(tour))

    def test_errors(self):
        calls = [(tour_cost, (None,)), (is_up_and_down, (None,))]
        for call, told in wrong_of_both(calls):
            self.assertRaises(BadSquare, call, *told)
        with soon():
            for call, _ in calls:
                for count in (2, 3, 4, 8):
                    for thing in wrong_tours(count):
                        with self.assertRaises(BadTour):
                            call(((0,) * count,) * count, thing)
                for thing in wrong_tables():
                    with self.assertRaises(BadTable):
                        call(thing, None)


class UpAndDownTest(SameTest):
    def test_small(self):
        for tour, wanted in (
            ((0, 1, 2, 3), True), ((0, 1, 3, 2), True), ((0, 2, 3, 1), True), ((0, 3, 2, 1), True),
            ((0, 2, 1, 3), False), ((0, 3, 1, 2), False),
        ):
            self.assertIs(is_up_and_down(Q, tour), wanted)
        self.assertIs(is_up_and_down(((5, 5), (5, 5)), (0, 1)), True)

    def test_the_last_place_may_be_the_last_of_the_tour(self):
        for count in range(2, 9):
            table = ((0,) * count,) * count
            self.assertIs(is_up_and_down(table, tuple(range(count))), True)
            self.assertIs(is_up_and_down(table, (0,) + tuple(range(count - 1, 0, -1))), True)

    def test_all_of_so_many_places(self):
        for count in range(2, 9):
            found = up_and_down_tours(count)
            self.same(found, sorted(tour for tour in all_tours(count) if rises_and_falls(tour)))
            self.assertEqual(len(found), 2 ** (count - 2))
            table = ((0,) * count,) * count
            for tour in all_tours(count)[::7]:
                self.assertEqual(is_up_and_down(table, tour), tour in found)
        self.same(up_and_down_tours(2), [(0, 1)])
        self.same(up_and_down_tours(3), [(0, 1, 2), (0, 2, 1)])

    def test_errors(self):
        for count in (1, 9, 0, -1, 10, 10 ** 100, True):
            self.assertRaises(BadNumber, up_and_down_tours, count)
        with soon():
            for thing in wrong_integers_within(2, 8):
                with self.assertRaises(BadNumber):
                    up_and_down_tours(thing)


def some_straight_tables(seed, most):
    """Of two places or more."""
    found = straight_squares(seed, most, 2)
    return found + [
        table for table in small_tables() if len(table) == len(table[0]) and straight_by_all_pairs(table)
    ]


class BestTourTest(SameTest):
    def test_small(self):
        self.same(best_tour(Q), (10, (0, 1, 3, 2)))
        self.same(best_tour(((1, 2), (3, 4))), (5, (0, 1)))
        self.same(best_tour(((7,) * 4,) * 4), (28, (0, 1, 2, 3)))

    def test_the_least_of_all_tours_and_the_first_that_rises_and_falls(self):
        for table in some_straight_tables(91, 7):
            least = min(cost(table, tour) for tour in all_tours(len(table)))
            first = min(tour for tour in all_tours(len(table)) if rises_and_falls(tour) and cost(table, tour) == least)
            self.same(best_tour(table), (least, first))

    def test_eight_places(self):
        tours = all_tours(8)
        for table in straight_squares(92, 8, 8)[::3]:
            least = min(cost(table, tour) for tour in tours)
            first = min(tour for tour in tours if rises_and_falls(tour) and cost(table, tour) == least)
            self.same(best_tour(table), (least, first))

    def test_errors(self):
        calls = [(best_tour, ()), (best_through, ()), (tours_of_cost, ())]
        for call, told in wrong_of_both(calls):
            self.assertRaises(BadSquare, call, *told)
        for call, _ in calls:
            for table in tables_that_are_not_straight():
                if len(table) == len(table[0]):
                    self.assertRaises(NotStraight, call, table)
            with soon():
                for thing in wrong_tables():
                    with self.assertRaises(BadTable):
                        call(thing)


class BestThroughTest(SameTest):
    def test_small(self):
        self.same(best_through(Q), 3)
        self.same(best_through(((1, 2), (3, 4))), 2)
        self.same(best_through(((1, -2), (3, 0))), -2)

    def test_by_all_rows_through_all_places(self):
        for table in some_straight_tables(93, 7):
            last = len(table) - 1
            costs = []
            for between in itertools.permutations(range(1, last)):
                places = (0, *between, last)
                costs.append(sum(table[i][j] for i, j in zip(places, places[1:])))
            self.same(best_through(table), min(costs))

    def test_eight_places(self):
        table = straight_table(chance(94), 8, 8)
        self.same(best_through(table), sum(table[i][i + 1] for i in range(7)))


class ToursOfCostTest(SameTest):
    def test_small(self):
        self.same(tours_of_cost(((1, 2), (3, 4))), 1)
        self.same(tours_of_cost(Q), 2)
        self.same(tours_of_cost(((7,) * 3,) * 3), 2)
        self.same(tours_of_cost(((7,) * 7,) * 7), 720)

    def test_by_all_tours(self):
        several = 0
        for table in some_straight_tables(95, 7):
            costs = [cost(table, tour) for tour in all_tours(len(table))]
            several += costs.count(min(costs)) > 2
            self.same(tours_of_cost(table), costs.count(min(costs)))
        self.assertGreater(several, 5)

    def test_each_way_round_by_itself(self):
        for count in range(3, 8):
            table = tuple(tuple((i - j) ** 2 for j in range(count)) for i in range(count))
            self.assertEqual(tours_of_cost(table) % 2, 0)
        self.same(tours_of_cost(((0, 0, 3), (0, -1, 0), (0, -4, -4))), 1)

    def test_above_seven_places(self):
        self.same(tours_of_cost(((0,) * 7,) * 7), 720)
        for table in straight_squares(96, 8, 8):
            self.assertRaises(TooMany, tours_of_cost, table)

    def test_too_many_comes_behind_the_other_errors(self):
        self.assertRaises(BadTable, tours_of_cost, ((0,) * 9,) * 9)
        self.assertRaises(BadSquare, tours_of_cost, ((0,) * 7,) * 8)
        self.assertRaises(BadSquare, tours_of_cost, ((0,) * 8,) * 7)
        self.assertRaises(NotStraight, tours_of_cost, tuple(tuple(i * j for j in range(8)) for i in range(8)))


if __name__ == "__main__":
    unittest.main()
