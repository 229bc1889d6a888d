"""Points 5 and 6: tables made of tables, crooked ones, reduced ones."""

import itertools
import unittest

from straightleast.errors import BadIndexes, BadNumber, BadNumbers, BadSizes, BadTable
from straightleast.tables import (
    added, count_crossings, is_crooked, is_straight, lifted, mirrored, reduced, scaled, thinned, turned,
)

from tests.samples import (
    GREAT, Q, SIZES, SameTest, any_table, chance, sample_tables, soon, straight_by_all_pairs, straight_table,
    with_entry, wrong_indexes, wrong_integers_within, wrong_numbers, wrong_tables,
)


class TableTest(SameTest):
    def straight(self, table):
        self.assertTrue(straight_by_all_pairs(table), table)


class LiftedTest(TableTest):
    def test_small(self):
        self.same(lifted(((5,),), (2,), (-4,)), ((3,),))
        self.same(lifted(((1, 2), (3, 4)), (10, 20), (100, 200)), ((111, 212), (123, 224)))
        self.same(lifted(((1, 2, 3),), (10,), (100, 200, 300)), ((111, 212, 313),))
        self.same(lifted(((1,), (2,), (3,)), (10, 20, 30), (100,)), ((111,), (122,), (133,)))
        self.same(lifted(Q, (0,) * 4, (0,) * 4), Q)

    def test_every_size(self):
        source = chance(10)
        for height, width in SIZES:
            table = any_table(source, height, width)
            rows = tuple(source.randint(-99, 99) for _ in range(height))
            columns = tuple(source.randint(-99, 99) for _ in range(width))
            found = lifted(table, rows, columns)
            self.same(found, tuple(
                tuple(table[i][j] + rows[i] + columns[j] for j in range(width)) for i in range(height)
            ))
            self.assertEqual(count_crossings(found), count_crossings(table))
            self.straight(lifted(straight_table(source, height, width), rows, columns))

    def test_great_integers(self):
        self.same(lifted(((GREAT, 0),), (-GREAT,), (0, GREAT)), ((0, 0),))
        self.same(lifted(((0,),), (GREAT,), (0,)), ((GREAT,),))

    def test_errors(self):
        with soon():
            for thing in wrong_tables():
                for told in (((0, 0), (0, 0)), (None, None), ([], [])):
                    with self.assertRaises(BadTable):
                        lifted(thing, *told)

    def test_numbers_of_other_sizes(self):
        for height, width in ((1, 1), (2, 3), (3, 2), (8, 8), (1, 8), (8, 1)):
            table = ((0,) * width,) * height
            for count in range(11):
                if count != height:
                    self.assertRaises(BadNumbers, lifted, table, (0,) * count, (0,) * width)
                if count != width:
                    self.assertRaises(BadNumbers, lifted, table, (0,) * height, (0,) * count)

    def test_what_are_no_numbers(self):
        table = ((0, 1, 2), (3, 4, 5))
        with soon():
            for thing in wrong_numbers(2):
                with self.assertRaises(BadNumbers):
                    lifted(table, thing, (0, 0, 0))
                with self.assertRaises(BadNumbers):
                    lifted(table, thing, None)
            for thing in wrong_numbers(3):
                with self.assertRaises(BadNumbers):
                    lifted(table, (0, 0), thing)


class AddedTest(TableTest):
    def test_small(self):
        self.same(added(((1,),), ((2,),)), ((3,),))
        self.same(added(((1, 2), (3, 4)), ((10, 20), (30, 40))), ((11, 22), (33, 44)))
        self.same(added(Q, Q), tuple(tuple(2 * entry for entry in row) for row in Q))
        self.same(added(((GREAT,),), ((-GREAT,),)), ((0,),))

    def test_every_size(self):
        source = chance(11)
        for height, width in SIZES:
            one = any_table(source, height, width)
            two = any_table(source, height, width)
            self.same(added(one, two), tuple(
                tuple(one[i][j] + two[i][j] for j in range(width)) for i in range(height)
            ))
            one = straight_table(source, height, width)
            self.straight(added(one, straight_table(source, height, width)))

    def test_other_sizes(self):
        for size in SIZES:
            for other in ((2, 3), (3, 2), (1, 1), (8, 8), (1, 8), (8, 1)):
                one, two = (((0,) * width,) * height for height, width in (size, other))
                if size == other:
                    self.same(added(one, two), one)
                else:
                    self.assertRaises(BadSizes, added, one, two)

    def test_what_is_no_table(self):
        with soon():
            for thing in wrong_tables():
                for told in ((thing, Q), (thing, None), (thing, ((0,),)), (Q, thing), (((0, 1, 2),), thing)):
                    with self.assertRaises(BadTable):
                        added(*told)


class ScaledTest(TableTest):
    def test_small(self):
        self.same(scaled(((1, -2), (3, 0)), 5), ((5, -10), (15, 0)))
        self.same(scaled(Q, 1), Q)

    def test_bounds(self):
        table = ((1, -2, 3), (0, 7, -7))
        self.same(scaled(table, 0), ((0, 0, 0), (0, 0, 0)))
        self.same(scaled(table, 10 ** 9), tuple(tuple(entry * 10 ** 9 for entry in row) for row in table))
        self.same(scaled(table, 10 ** 9 - 1)[0], tuple(entry * (10 ** 9 - 1) for entry in table[0]))
        for times in (-1, 10 ** 9 + 1, -10 ** 9, GREAT, -GREAT, True, False):
            self.assertRaises(BadNumber, scaled, table, times)

    def test_great_integers(self):
        self.same(scaled(((10 ** 20, -10 ** 20),), 10 ** 9), ((10 ** 29, -10 ** 29),))

    def test_every_size(self):
        source = chance(12)
        for height, width in SIZES:
            table = any_table(source, height, width)
            for times in (0, 1, 2, 17, 10 ** 9):
                self.same(scaled(table, times), tuple(
                    tuple(table[i][j] * times for j in range(width)) for i in range(height)
                ))
                self.straight(scaled(straight_table(source, height, width), times))

    def test_errors(self):
        with soon():
            for thing in wrong_tables():
                for times in (1, -1, None):
                    with self.assertRaises(BadTable):
                        scaled(thing, times)
            for thing in wrong_integers_within(0, 10 ** 9):
                with self.assertRaises(BadNumber):
                    scaled(Q, thing)


class TurnedTest(TableTest):
    def test_small(self):
        self.same(turned(((5,),)), ((5,),))
        self.same(turned(((1, 2, 3), (4, 5, 6))), ((1, 4), (2, 5), (3, 6)))
        self.same(turned(((1, 2, 3),)), ((1,), (2,), (3,)))
        self.same(turned(((1,), (2,), (3,))), ((1, 2, 3),))
        self.same(turned(Q), Q)

    def test_every_size(self):
        source = chance(13)
        for height, width in SIZES:
            table = any_table(source, height, width)
            found = turned(table)
            self.same(found, tuple(tuple(table[i][j] for i in range(height)) for j in range(width)))
            self.same(turned(found), table)
            self.straight(turned(straight_table(source, height, width)))

    def test_errors(self):
        with soon():
            for thing in wrong_tables():
                with self.assertRaises(BadTable):
                    turned(thing)


class ThinnedTest(TableTest):
    table = ((1, 2, 3, 4), (5, 6, 7, 8), (9, 10, 11, 12))

    def test_one_index(self):
        for row in range(3):
            for column in range(4):
                self.same(thinned(self.table, (row,), (column,)), ((self.table[row][column],),))

    def test_all_of_them(self):
        self.same(thinned(self.table, (0, 1, 2), (0, 1, 2, 3)), self.table)
        self.same(thinned(((7,),), (0,), (0,)), ((7,),))

    def test_every_choice(self):
        for rows in choices(3):
            for columns in choices(4):
                self.same(thinned(self.table, rows, columns), tuple(
                    tuple(self.table[i][j] for j in columns) for i in rows
                ))

    def test_eight_by_eight(self):
        source = chance(14)
        table = any_table(source, 8, 8)
        straight = straight_table(source, 8, 8)
        for rows in choices(8)[::5]:
            for columns in choices(8)[::7]:
                self.same(thinned(table, rows, columns), tuple(
                    tuple(table[i][j] for j in columns) for i in rows
                ))
                self.straight(thinned(straight, rows, columns))
        self.same(thinned(table, tuple(range(8)), tuple(range(8))), table)

    def test_none_falling_twice_and_beyond(self):
        for wrong in ((), (1, 0), (2, 0), (0, 2, 1), (0, 0), (1, 1), (0, 1, 1), (-1,), (-1, 0), (4,), (0, 4)):
            self.assertRaises(BadIndexes, thinned, self.table, wrong, (0,))
            self.assertRaises(BadIndexes, thinned, self.table, (0,), wrong)
        self.assertRaises(BadIndexes, thinned, self.table, (3,), (3,))
        self.assertRaises(BadIndexes, thinned, self.table, (0, 1, 2, 3), (0,))
        self.same(thinned(self.table, (2,), (3,)), ((12,),))

    def test_errors(self):
        with soon():
            for thing in wrong_tables():
                for told in (((0,), (0,)), (None, None), ((), ())):
                    with self.assertRaises(BadTable):
                        thinned(thing, *told)
            for thing in wrong_indexes(3):
                for columns in ((0,), (), None):
                    with self.assertRaises(BadIndexes):
                        thinned(self.table, thing, columns)
            for thing in wrong_indexes(4):
                with self.assertRaises(BadIndexes):
                    thinned(self.table, (0,), thing)
            for thing in wrong_indexes(1):
                with self.assertRaises(BadIndexes):
                    thinned(((0,),), thing, (0,))


def choices(count):
    return [
        one for length in range(1, count + 1) for one in itertools.combinations(range(count), length)
    ]


class MirroredTest(TableTest):
    def test_small(self):
        self.same(mirrored(((5,),)), ((5,),))
        self.same(mirrored(((1, 2),)), ((1, 2),))
        self.same(mirrored(((1, 2), (3, 4), (5, 6))), ((5, 6), (3, 4), (1, 2)))
        self.same(mirrored(Q), ((9, 4, 1, 0), (4, 1, 0, 1), (1, 0, 1, 4), (0, 1, 4, 9)))

    def test_every_size(self):
        source = chance(15)
        for height, width in SIZES:
            table = any_table(source, height, width)
            self.same(mirrored(table), tuple(table[height - 1 - i] for i in range(height)))
            self.same(mirrored(mirrored(table)), table)

    def test_a_straight_table_need_not_stay_straight(self):
        self.assertFalse(straight_by_all_pairs(mirrored(Q)))

    def test_errors(self):
        with soon():
            for thing in wrong_tables():
                with self.assertRaises(BadTable):
                    mirrored(thing)


class CrookedTest(TableTest):
    def test_small(self):
        self.assertIs(is_crooked(Q), False)
        self.assertIs(is_crooked(Q[::-1]), True)
        self.assertIs(is_crooked(((0, 0), (0, 1))), True)
        self.assertIs(is_crooked(((0, 0), (0, -1))), False)
        self.assertIs(is_crooked(((0, 0), (0, 0))), True)
        self.assertIs(is_crooked(((3, 1, 2),)), True)
        self.assertIs(is_crooked(((3,), (1,), (2,))), True)

    def test_samples(self):
        for table in sample_tables(16):
            wanted = straight_by_all_pairs(table[::-1])
            self.assertIs(is_crooked(table), wanted)
            self.assertIs(is_crooked(table[::-1]), straight_by_all_pairs(table))

    def test_both_exactly_if_sums_of_a_row_and_a_column(self):
        source = chance(17)
        tables = sample_tables(17)
        for height, width in SIZES:
            rows, columns = any_table(source, 1, height)[0], any_table(source, 1, width)[0]
            sums = tuple(tuple(up + over for over in columns) for up in rows)
            tables += [sums, with_entry(sums, height - 1, width - 1, 100)]
        for table in tables:
            corner = table[0][0]
            sums = all(
                table[i][j] == table[i][0] + table[0][j] - corner
                for i in range(len(table)) for j in range(len(table[0]))
            )
            self.assertIs(is_straight(table) and is_crooked(table), sums)

    def test_errors(self):
        with soon():
            for thing in wrong_tables():
                with self.assertRaises(BadTable):
                    is_crooked(thing)


class ReducedTest(TableTest):
    def test_small(self):
        self.same(reduced(((5,),)), (((0,),), (5,), (0,)))
        self.same(reduced(((-5,),)), (((0,),), (-5,), (0,)))
        self.same(reduced(((1, 2), (3, 5))), (((0, 0), (0, 1)), (1, 3), (0, 1)))
        self.same(reduced(((4, 2, 7),)), (((0, 0, 0),), (2,), (2, 0, 5)))
        self.same(reduced(((4,), (2,), (7,))), (((0,), (0,), (0,)), (4, 2, 7), (0,)))
        self.same(reduced(Q), (Q, (0,) * 4, (0,) * 4))

    def test_rows_are_taken_ahead_of_columns(self):
        self.same(reduced(((0, 5), (0, 5))), (((0, 0), (0, 0)), (0, 0), (0, 5)))
        self.same(reduced(((0, 0), (5, 5))), (((0, 0), (0, 0)), (0, 5), (0, 0)))

    def test_samples(self):
        for table in sample_tables(18):
            rest, rows, columns = reduced(table)
            self.assertEqual(rows, tuple(min(row) for row in table))
            left = [[entry - min(row) for entry in row] for row in table]
            self.assertEqual(columns, tuple(min(row[j] for row in left) for j in range(len(table[0]))))
            wanted = tuple(tuple(entry - columns[j] for j, entry in enumerate(row)) for row in left)
            self.same((rest, rows, columns), (wanted, tuple(rows), tuple(columns)))
            self.assertIs(is_straight(rest), is_straight(table))

    def test_what_is_reduced_again_has_nothing_taken(self):
        for table in sample_tables(19):
            rest = reduced(table)[0]
            self.same(reduced(rest), (rest, (0,) * len(table), (0,) * len(table[0])))

    def test_errors(self):
        with soon():
            for thing in wrong_tables():
                with self.assertRaises(BadTable):
                    reduced(thing)


if __name__ == "__main__":
    unittest.main()
