"""Points 24 and 25: sequences that make a table straight, rows that are like, tables without an order."""

import itertools
import unittest

from straightleast.errors import BadOrder, BadTable, TooMany
from straightleast.orders import (
    all_orders, first_order, is_order_for, like_columns, like_rows, no_order, reordered,
)

from tests.samples import (
    FAR, GREAT, Q, SameTest, any_table, chance, deep_objects, odd_objects, small_tables, soon, straight_by_all_pairs,
    straight_table, wrong_tables,
)

WITHOUT = ((0, 0, 0), (0, 0, 1), (0, 1, 1))
TRIED = [first_order, all_orders, no_order]


def in_sequence(table, rows, columns):
    """The table in these sequences, entry by entry."""
    return tuple(tuple(table[row][column] for column in columns) for row in rows)


def every_order(table):
    """All sequences of rows and of columns, as tuples compare."""
    return itertools.product(
        itertools.permutations(range(len(table))), itertools.permutations(range(len(table[0]))),
    )


def orders_by_trying(table):
    return [
        (rows, columns) for rows, columns in every_order(table)
        if straight_by_all_pairs(in_sequence(table, rows, columns))
    ]


def some_indexes(count):
    return [some for size in range(1, count + 1) for some in itertools.combinations(range(count), size)]


def no_order_by_trying(table):
    """By how many rows and columns together, then as tuples compare."""
    choices = itertools.product(some_indexes(len(table)), some_indexes(len(table[0])))
    for rows, columns in sorted(choices, key=lambda pair: (len(pair[0]) + len(pair[1]), pair)):
        if not orders_by_trying(in_sequence(table, rows, columns)):
            return (rows, columns)
    return None


def shuffled(source, table):
    """The table with its rows and columns in sequences by chance."""
    rows = source.sample(range(len(table)), len(table))
    columns = source.sample(range(len(table[0])), len(table[0]))
    return in_sequence(table, rows, columns)


def tables_to_try(seed, most):
    """Small ones of all kinds: any, straight, shuffled, nearly straight, with rows that are like."""
    source = chance(seed)
    found = [WITHOUT, Q[:most]]
    for height, width in itertools.product(range(1, most + 1), repeat=2):
        found += [any_table(source, height, width, 1), any_table(source, height, width, GREAT)]
        straight = straight_table(source, height, width, 2)
        found += [straight, shuffled(source, straight), shuffled(source, straight_table(source, height, width, 1))]
        found.append(((3,) * width,) * height)
    return found


def wrong_orders(count):
    right = tuple(range(count))
    wrong = odd_objects() + deep_objects() + [0, count, (), list(right), set(right), range(count), (right,), [right]]
    # One left out, one twice, one beyond, one too few, one too many.
    wrong += [right[:-1], right[1:], right + (0,), right + (count,), right[:-1] + (count,), right[:-1] + (-1,)]
    wrong += [tuple(at + 1 for at in right), right * 2, right[:-1] + (FAR,), right[:-1] + (-FAR,)]
    if count > 1:
        wrong += [(0,) * count, right[:-1] + right[:1], right[:-1] + right[-2:-1]]
    for at in range(count):
        for entry in (True, False, None, "0", (0,), [0], {}):
            wrong.append(right[:at] + (entry,) + right[at + 1:])
    return wrong


class OrdersTest(SameTest):
    def test_small(self):
        table = ((1, 2, 3), (4, 5, 7))
        self.same(reordered(table, (1, 0), (2, 0, 1)), ((7, 4, 5), (3, 1, 2)))
        self.same(reordered(table, (0, 1), (0, 1, 2)), table)
        self.assertIs(is_order_for(table, (1, 0), (0, 1, 2)), True)
        self.assertIs(is_order_for(table, (0, 1), (0, 1, 2)), False)
        self.assertIs(is_order_for(Q, (3, 2, 1, 0), (3, 2, 1, 0)), True)
        self.assertIs(is_order_for(Q, (3, 2, 1, 0), (0, 1, 2, 3)), False)
        self.same(reordered(((5,),), (0,), (0,)), ((5,),))

    def test_every_order_of_small_tables(self):
        for table in tables_to_try(240, 3):
            for rows, columns in every_order(table):
                wanted = in_sequence(table, rows, columns)
                self.same(reordered(table, rows, columns), wanted)
                self.assertIs(is_order_for(table, rows, columns), straight_by_all_pairs(wanted))

    def test_great_tables(self):
        source = chance(241)
        for height, width in ((8, 8), (8, 1), (1, 8), (7, 5), (3, 8)):
            for table in (any_table(source, height, width), straight_table(source, height, width)):
                for _ in range(10):
                    rows = tuple(source.sample(range(height), height))
                    columns = tuple(source.sample(range(width), width))
                    wanted = in_sequence(table, rows, columns)
                    self.same(reordered(table, rows, columns), wanted)
                    self.assertIs(is_order_for(table, rows, columns), straight_by_all_pairs(wanted))
                self.assertIs(is_order_for(table, tuple(range(height)), tuple(range(width))),
                              straight_by_all_pairs(table))

    def test_errors(self):
        with soon():
            for call in (is_order_for, reordered):
                for height, width in ((1, 1), (2, 3), (4, 2), (8, 8)):
                    table = ((0,) * width,) * height
                    rows, columns = tuple(range(height)), tuple(range(width))
                    for thing in wrong_orders(height):
                        with self.assertRaises(BadOrder):
                            call(table, thing, columns)
                        with self.assertRaises(BadOrder):
                            call(table, thing, None)
                    for thing in wrong_orders(width):
                        with self.assertRaises(BadOrder):
                            call(table, rows, thing)
                for thing in wrong_tables():
                    with self.assertRaises(BadTable):
                        call(thing, None, None)


class FirstOrderTest(SameTest):
    def test_small(self):
        self.same(first_order(Q), ((0, 1, 2, 3), (0, 1, 2, 3)))
        self.same(first_order(Q[::-1]), ((0, 1, 2, 3), (3, 2, 1, 0)))
        self.same(first_order(((0, 1, 0), (1, 0, 0))), ((0, 1), (0, 2, 1)))
        self.same(first_order(((7,),)), ((0,), (0,)))
        self.assertIs(first_order(WITHOUT), None)

    def test_one_row_or_one_column(self):
        source = chance(242)
        for count in range(1, 7):
            straight = tuple(range(count))
            self.same(first_order(any_table(source, 1, count)), ((0,), straight))
            self.same(first_order(any_table(source, count, 1)), (straight, (0,)))

    def test_against_all_sequences(self):
        for table in list(small_tables()) + tables_to_try(243, 4):
            found = orders_by_trying(table)
            self.same(first_order(table), found[0] if found else None)

    def test_six_rows_and_columns(self):
        source = chance(244)
        for _ in range(10):
            straight = straight_table(source, 6, 6, 3)
            table = shuffled(source, straight)
            rows, columns = first_order(table)
            self.assertTrue(straight_by_all_pairs(in_sequence(table, rows, columns)))
            # No sequence of the rows ahead of it has any of the columns.
            for other in itertools.permutations(range(6)):
                if other == rows:
                    break
                falls = [
                    tuple(table[one][at] - table[two][at] for one, two in zip(other, other[1:])) for at in range(6)
                ]
                self.assertTrue(any(
                    not all(x <= y for x, y in zip(one, two)) and not all(x >= y for x, y in zip(one, two))
                    for one, two in itertools.combinations(falls, 2)
                ))
            self.same(first_order(((4,) * 6,) * 6), (tuple(range(6)),) * 2)
        self.assertIs(first_order(any_table(source, 6, 6, GREAT)), None)

    def test_too_many(self):
        for height, width in itertools.product(range(1, 9), repeat=2):
            table = ((0,) * width,) * height
            if height > 6 or width > 6:
                self.assertRaises(TooMany, first_order, table)
            else:
                self.same(first_order(table), (tuple(range(height)), tuple(range(width))))

    def test_a_wrong_table_comes_ahead_of_too_many(self):
        with soon():
            for call in TRIED:
                for thing in wrong_tables() + [((0,) * 9,) * 9, ((0,),) * 9, ((0,) * 7,) * 6 + ((0,) * 6,)]:
                    with self.assertRaises(BadTable):
                        call(thing)


class AllOrdersTest(SameTest):
    def test_small(self):
        self.same(all_orders(Q), [((0, 1, 2, 3),) * 2, ((3, 2, 1, 0),) * 2])
        self.same(all_orders(WITHOUT), [])
        self.same(all_orders(((7,),)), [((0,), (0,))])
        self.same(all_orders(((7, 7),)), [((0,), (0, 1)), ((0,), (1, 0))])

    def test_against_all_sequences(self):
        for table in list(small_tables()) + tables_to_try(245, 4):
            found = all_orders(table)
            self.same(found, orders_by_trying(table))
            self.assertEqual(found, sorted(set(found)))

    def test_five_rows_and_columns(self):
        self.same(all_orders(((0,) * 5,) * 5), list(every_order(((0,) * 5,) * 5)))
        source = chance(246)
        table = shuffled(source, straight_table(source, 5, 5, 1))
        self.same(all_orders(table), orders_by_trying(table))

    def test_too_many(self):
        for height, width in itertools.product(range(1, 9), repeat=2):
            table = ((0,) * width,) * height
            for call in (all_orders, no_order):
                if height > 5 or width > 5:
                    self.assertRaises(TooMany, call, table)
        self.assertEqual(len(all_orders(((0,) * 5,))), 120)
        self.assertEqual(len(all_orders(((0,),) * 5)), 120)


class LikeTest(SameTest):
    def test_all_none_and_some_not_side_by_side(self):
        self.same(like_rows(((1, 2, 3), (2, 3, 4), (0, 1, 2))), [(0, 1, 2)])
        self.same(like_rows(((1, 2, 3), (2, 3, 5), (0, 1, 9))), [(0,), (1,), (2,)])
        self.same(like_rows(((1, 2, 3), (2, 3, 5), (4, 5, 6), (0, 1, 3))), [(0, 2), (1, 3)])
        self.same(like_rows(((1, 2), (5, 6), (1, 2))), [(0, 1, 2)])
        self.same(like_rows(Q), [(0,), (1,), (2,), (3,)])
        self.same(like_columns(((1, 5, 1, 2), (2, 5, 2, 3))), [(0, 2, 3), (1,)])
        self.same(like_columns(((1, 2, 3), (2, 3, 4))), [(0, 1, 2)])
        self.same(like_columns(((1, 2, 4), (2, 4, 7))), [(0,), (1,), (2,)])

    def test_one_row_or_one_column(self):
        for count in range(1, 9):
            every = tuple(range(count))
            alone = [(at,) for at in range(count)]
            self.same(like_columns((every,)), [every])
            self.same(like_rows(tuple((at * at,) for at in range(count))), [every])
            self.same(like_rows((every,)), [(0,)])
            self.same(like_columns((every, tuple(2 * at for at in every))), alone)

    def test_by_the_words_of_the_document(self):
        source = chance(247)
        for table in list(small_tables()) + tables_to_try(248, 8) + [any_table(source, 8, 2, 1) for _ in range(50)]:
            rows = [
                tuple(
                    other for other in range(len(table))
                    if len({one - two for one, two in zip(table[other], table[row])}) == 1
                )
                for row in range(len(table))
            ]
            self.same(like_rows(table), sorted(set(rows)))
            turned = tuple(zip(*table))
            self.same(like_columns(turned), sorted(set(rows)))

    def test_in_straight_tables_what_is_between_is_like(self):
        source = chance(249)
        for _ in range(100):
            table = straight_table(source, source.randint(1, 8), source.randint(1, 8), 1)
            for group in like_rows(table) + like_columns(table):
                self.assertEqual(group, tuple(range(group[0], group[-1] + 1)))

    def test_errors(self):
        with soon():
            for call in (like_rows, like_columns):
                for thing in wrong_tables():
                    with self.assertRaises(BadTable):
                        call(thing)


class NoOrderTest(SameTest):
    def test_small(self):
        self.assertIs(no_order(Q), None)
        self.assertIs(no_order(Q[::-1]), None)
        self.assertIs(no_order(((7,),)), None)
        self.same(no_order(WITHOUT), ((0, 1, 2), (0, 1, 2)))
        behind = ((5, 5, 5, 5),) + tuple(row + (row[2],) for row in WITHOUT)
        self.same(no_order(behind), no_order_by_trying(behind))

    def test_against_trying(self):
        source = chance(250)
        tables = tables_to_try(251, 4) + [any_table(source, 4, 4, 1) for _ in range(12)]
        tables += [any_table(source, height, width, 1) for height, width in ((3, 4), (4, 3), (3, 3)) for _ in range(8)]
        without = 0
        for table in tables:
            found = no_order(table)
            self.same(found, no_order_by_trying(table))
            self.assertEqual(found is None, first_order(table) is not None)
            without += found is not None
        self.assertGreater(without, 10)

    def test_of_five_rows_and_columns(self):
        source = chance(252)
        for _ in range(10):
            table = any_table(source, 5, 5, 1)
            found = no_order(table)
            self.assertIs(found is None, first_order(table) is not None)
            if found is not None:
                rows, columns = found
                part = in_sequence(table, rows, columns)
                self.assertEqual(orders_by_trying(part), [])
                # With one row or column less there is an order.
                for at in range(len(rows)):
                    self.assertIsNot(first_order(part[:at] + part[at + 1:]), None)
        self.assertIs(no_order(((0,) * 5,) * 5), None)


if __name__ == "__main__":
    unittest.main()
