"""Points 22 and 23: climbs in so many steps, and at a price for each step."""

import itertools
import unittest

from straightleast.climbs import (
    best_climb, best_of_all, climb_cost, climb_prices, climb_sums, climbs_at_price, last_steps,
)
from straightleast.errors import BadClimb, BadNumber, BadSquare, BadTable, NotStraight

from tests.samples import (
    GREAT, Q, SameTest, deep_objects, odd_objects, small_tables, soon, square_tables, straight_by_all_pairs,
    tables_that_are_not_square, tables_that_are_not_straight, wrong_integers, wrong_integers_within, wrong_tables,
)


def climbs_to(place, steps):
    """All rising places from 0 to this one in so many steps."""
    if place == 0:
        return [(0,)] if steps == 0 else []
    if steps == 0:
        return []
    return [(0, *between, place) for between in itertools.combinations(range(1, place), steps - 1)]


def cost(table, climb):
    return sum(table[climb[at]][climb[at + 1]] for at in range(len(climb) - 1))


def sampled(seed):
    """Square tables of two places or more, straight or not."""
    return square_tables(seed, 8, 2) + [table for table in small_tables() if len(table) == len(table[0])]


def by_trying(table):
    """The first least (sum, climb) for each number of steps, from one on."""
    last = len(table) - 1
    return [
        min((cost(table, climb), climb) for climb in climbs_to(last, steps)) for steps in range(1, last + 1)
    ]


class ClimbCostTest(SameTest):
    def test_small(self):
        self.same(climb_cost(Q, (0, 3)), 9)
        self.same(climb_cost(Q, (0, 1, 3)), 5)
        self.same(climb_cost(Q, (0, 1, 2, 3)), 3)
        self.same(climb_cost(((1, -2), (3, 4)), (0, 1)), -2)

    def test_all_climbs(self):
        for table in sampled(110):
            for steps in range(1, len(table)):
                for climb in climbs_to(len(table) - 1, steps):
                    self.same(climb_cost(table, climb), cost(table, climb))

    def test_every_tuple_of_small_numbers(self):
        table = ((0,) * 3,) * 3
        for length in range(5):
            for thing in itertools.product(range(-1, 4), repeat=length):
                if thing in ((0, 2), (0, 1, 2)):
                    self.same(climb_cost(table, thing), 0)
                else:
                    self.assertRaises(BadClimb, climb_cost, table, thing)

    def test_what_is_no_climb(self):
        right = (0, 1, 2, 3)
        wrong = odd_objects() + deep_objects() + [list(right), [right], (right,), set(right), range(4), "0123", 0, 3]
        wrong += [(), (0,), (3,), (0, 3, 3), (0, 0, 3), (3, 0), (0, 2, 1, 3), (1, 3), (0, 2), (0, 3, 4), (-1, 0, 3)]
        wrong += [(0, 4), right + (4,), {0: 0, 1: 3}, (0, 1, 2, 3, 3), (-4, 3), (0, -1)]
        for at in range(4):
            for entry in (True, False, None, "0", (0,), [0], {}, 4, -1, GREAT, 10 ** 100, -10 ** 100):
                wrong.append(right[:at] + (entry,) + right[at + 1:])
        with soon():
            for thing in wrong:
                with self.assertRaises(BadClimb):
                    climb_cost(Q, thing)

    def test_errors(self):
        calls = [
            (climb_cost, (None,)), (best_climb, (None,)), (climb_sums, ()), (last_steps, (None,)), (best_of_all, ()),
            (climbs_at_price, (None,)), (climb_prices, ()),
        ]
        for call, behind in calls:
            for table in tables_that_are_not_square() + [((5,),), ((0,),), ((-GREAT,),)]:
                self.assertRaises(BadSquare, call, table, *behind)
            with soon():
                for thing in wrong_tables():
                    with self.assertRaises(BadTable):
                        call(thing, *behind)


class BestClimbTest(SameTest):
    def test_small(self):
        self.same(best_climb(Q, 1), (9, (0, 3)))
        self.same(best_climb(Q, 2), (5, (0, 1, 3)))
        self.same(best_climb(Q, 3), (3, (0, 1, 2, 3)))
        self.same(climb_sums(Q), [9, 5, 3])
        self.same(best_climb(((1, 2), (3, 4)), 1), (2, (0, 1)))
        self.same(climb_sums(((1, 2), (3, 4))), [2])
        self.same(best_climb(((0,) * 8,) * 8, 3), (0, (0, 1, 2, 7)))

    def test_all_climbs(self):
        for table in sampled(111):
            wanted = by_trying(table)
            self.same(climb_sums(table), [total for total, _ in wanted])
            for steps, told in enumerate(wanted, 1):
                self.same(best_climb(table, steps), told)

    def test_a_step_more_saves_less_and_less_in_a_straight_table(self):
        for table in sampled(112):
            if straight_by_all_pairs(table):
                sums = climb_sums(table)
                saved = [sums[at] - sums[at + 1] for at in range(len(sums) - 1)]
                self.assertEqual(saved, sorted(saved, reverse=True))
                self.same(climb_prices(table), saved)

    def test_how_many_steps(self):
        for count in range(2, 9):
            table = ((1,) * count,) * count
            self.same(best_climb(table, count - 1), (count - 1, tuple(range(count))))
            self.assertEqual(len(climb_sums(table)), count - 1)
            for call in (best_climb, last_steps):
                for steps in (0, count, count + 1, -1, 10 ** 100, True, False):
                    self.assertRaises(BadNumber, call, table, steps)
        with soon():
            for call in (best_climb, last_steps):
                for thing in wrong_integers_within(1, 3):
                    with self.assertRaises(BadNumber):
                        call(Q, thing)


class LastStepsTest(SameTest):
    def test_small(self):
        self.same(last_steps(Q, 1), (None, 0, 0, 0))
        self.same(last_steps(Q, 2), (None, None, 1, 1))
        self.same(last_steps(Q, 3), (None, None, None, 2))
        self.same(last_steps(((1, 2), (3, 4)), 1), (None, 0))
        self.same(last_steps(((0, 5, 1, 9), (0, 0, 0, 2), (0, 0, 0, 3), (0, 0, 0, 0)), 2), (None, None, 1, 2))

    def test_by_all_climbs(self):
        for table in sampled(113):
            for steps in range(1, len(table)):
                wanted = []
                for place in range(len(table)):
                    told = [(cost(table, climb), climb[-2]) for climb in climbs_to(place, steps)]
                    wanted.append(min(told)[1] if told else None)
                self.same(last_steps(table, steps), tuple(wanted))

    def test_they_never_fall_in_a_straight_table(self):
        for table in sampled(114):
            if straight_by_all_pairs(table):
                for steps in range(1, len(table)):
                    found = last_steps(table, steps)
                    self.assertEqual(found[:steps], (None,) * steps)
                    self.assertEqual(list(found[steps:]), sorted(found[steps:]))


class BestOfAllTest(SameTest):
    def test_small(self):
        self.same(best_of_all(Q), (3, (0, 1, 2, 3)))
        self.same(best_of_all(((1, 2), (3, 4))), (2, (0, 1)))
        self.same(best_of_all(((0,) * 8,) * 8), (0, (0, 7)))
        self.same(best_of_all(((-1,) * 8,) * 8), (-7, tuple(range(8))))

    def test_the_first_by_fewer_steps_and_then_as_tuples_compare(self):
        table = ((0, 1, 1, 3, 4), (0, 0, 1, 1, 3), (0, 0, 0, 1, 2), (0, 0, 0, 0, 1), (0,) * 5)
        self.same(best_of_all(table), (3, (0, 2, 4)))
        table = ((0, 1, 1, 9), (0, 0, 9, 1), (0, 0, 0, 1), (0,) * 4)
        self.same(best_of_all(table), (2, (0, 1, 3)))

    def test_by_all_climbs(self):
        for table in sampled(115):
            last = len(table) - 1
            climbs = [climb for steps in range(1, last + 1) for climb in climbs_to(last, steps)]
            total, _, climb = min((cost(table, climb), len(climb), climb) for climb in climbs)
            self.same(best_of_all(table), (total, climb))


class PriceTest(SameTest):
    def at_price(self, table, price):
        sums = [total + price * steps for steps, (total, _) in enumerate(by_trying(table), 1)]
        return (sums.index(min(sums)) + 1, min(sums))

    def test_small(self):
        self.same(climb_prices(Q), [4, 2])
        self.same(climbs_at_price(Q, 0), (3, 3))
        self.same(climbs_at_price(Q, 1), (3, 6))
        self.same(climbs_at_price(Q, 2), (2, 9))
        self.same(climbs_at_price(Q, 3), (2, 11))
        self.same(climbs_at_price(Q, 4), (1, 13))
        self.same(climbs_at_price(Q, 5), (1, 14))
        self.same(climbs_at_price(Q, -1), (3, 0))
        self.same(climbs_at_price(((1, 2), (3, 4)), 7), (1, 9))
        self.same(climbs_at_price(((1, 2), (3, 4)), -7), (1, -5))

    def test_great_prices(self):
        self.same(climbs_at_price(Q, 10 ** 28), (1, 9 + 10 ** 28))
        self.same(climbs_at_price(Q, -10 ** 28), (3, 3 - 3 * 10 ** 28))
        self.same(climbs_at_price(((0,) * 8,) * 8, 0), (1, 0))

    def test_at_above_and_below_what_a_step_saves(self):
        for table in sampled(116):
            sums = climb_sums(table)
            saved = {one - other for one, other in zip(sums, sums[1:])}
            for price in {number + step for number in saved for step in (-1, 0, 1)} | {0, 1, -1, 99, -99}:
                self.same(climbs_at_price(table, price), self.at_price(table, price))

    def test_prices_of_two_places_and_of_eight(self):
        for table in square_tables(117, 8, 2):
            if straight_by_all_pairs(table):
                found = climb_prices(table)
                sums = [total for total, _ in by_trying(table)]
                self.same(found, [sums[at] - sums[at + 1] for at in range(len(sums) - 1)])
                self.assertEqual(len(found), len(table) - 2)
                if len(table) == 2:
                    self.same(found, [])

    def test_errors(self):
        for table in tables_that_are_not_straight():
            if len(table) == len(table[0]):
                self.assertRaises(NotStraight, climb_prices, table)
        with soon():
            for thing in wrong_integers():
                with self.assertRaises(BadNumber):
                    climbs_at_price(Q, thing)


if __name__ == "__main__":
    unittest.main()
