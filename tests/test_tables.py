"""Point 4: tables, straight ones, and their crossings."""

import unittest

from straightleast.errors import BadTable
from straightleast.tables import count_crossings, first_crossing, is_straight, is_table

from tests.samples import (
    GREAT, Q, SIZES, any_table, chance, paying_crossings, sample_tables, soon, straight_by_all_pairs,
    straight_table, with_entry, wrong_tables,
)


class IsTableTest(unittest.TestCase):
    def test_every_size_from_one_to_eight(self):
        for height, width in SIZES:
            self.assertIs(is_table(((0,) * width,) * height), True, (height, width))

    def test_no_other_size(self):
        for height in range(12):
            for width in range(12):
                right = 1 <= height <= 8 and 1 <= width <= 8
                self.assertIs(is_table(((0,) * width,) * height), right, (height, width))

    def test_rows_of_unlike_length(self):
        for height in range(2, 9):
            for at in range(height):
                for length in (0, 1, 2, 4, 8, 9):
                    rows = [(0, 0, 0)] * height
                    rows[at] = (0,) * length
                    self.assertIs(is_table(tuple(rows)), False, (height, at, length))

    def test_entries_of_any_size(self):
        for entry in (0, 1, -1, 2 ** 63, -2 ** 64, GREAT, -GREAT):
            self.assertIs(is_table(((entry, 0), (0, entry))), True)

    def test_each_entry_has_to_be_an_integer(self):
        for entry in (True, False, None, "0", (0,), [0], {}):
            for row in range(3):
                for column in range(4):
                    self.assertIs(is_table(with_entry(((0,) * 4,) * 3, row, column, entry)), False)

    def test_each_row_has_to_be_a_tuple(self):
        for at in range(3):
            for line in ([0, 0], "00", {0: 0, 1: 0}, None, True, 0, b"00", range(2)):
                rows = [(0, 0)] * 3
                rows[at] = line
                self.assertIs(is_table(tuple(rows)), False)

    def test_any_other_object(self):
        with soon():
            for at, thing in enumerate(wrong_tables()):
                self.assertIs(is_table(thing), False, at)

    def test_samples(self):
        self.assertIs(is_table(Q), True)
        self.assertTrue(all(is_table(table) for table in sample_tables(1)))
        self.assertIs(is_table([list(row) for row in Q]), False)
        self.assertIs(is_table(list(Q)), False)
        self.assertIs(is_table(tuple(list(row) for row in Q)), False)


class StraightTest(unittest.TestCase):
    def test_the_table_of_the_examples(self):
        self.assertIs(is_straight(Q), True)
        self.assertIsNone(first_crossing(Q))
        self.assertEqual(count_crossings(Q), 0)

    def test_one_row_or_one_column(self):
        source = chance(2)
        for length in range(1, 9):
            for table in (any_table(source, 1, length), any_table(source, length, 1)):
                self.assertIs(is_straight(table), True)
                self.assertIsNone(first_crossing(table))
                self.assertEqual(count_crossings(table), 0)

    def test_sums_that_are_just_alike_do_not_pay(self):
        self.assertIs(is_straight(((0, 1), (1, 2))), True)
        self.assertIs(is_straight(((0, 1), (1, 3))), False)
        self.assertIs(is_straight(((0, 1), (1, 1))), True)
        self.assertIs(is_straight(((GREAT, 0), (0, -GREAT))), True)
        self.assertIs(is_straight(((GREAT, 0), (0, 1 - GREAT))), False)

    def test_by_all_pairs(self):
        straight = 0
        for table in sample_tables(3):
            wanted = straight_by_all_pairs(table)
            straight += wanted
            self.assertIs(is_straight(table), wanted, table)
        self.assertGreater(straight, 200)

    def test_eight_by_eight_with_one_entry_changed(self):
        table = straight_table(chance(4), 8, 8)
        self.assertIs(is_straight(table), True)
        for row in range(8):
            for column in range(8):
                for step in (-100, -1, 1, 100):
                    other = with_entry(table, row, column, table[row][column] + step)
                    self.assertIs(is_straight(other), straight_by_all_pairs(other))

    def test_what_is_no_table(self):
        with soon():
            for judge in (is_straight, first_crossing, count_crossings):
                for thing in wrong_tables():
                    with self.assertRaises(BadTable):
                        judge(thing)


class FirstCrossingTest(unittest.TestCase):
    def first(self, table):
        for i in range(len(table) - 1):
            for j in range(len(table[0]) - 1):
                if table[i][j] + table[i + 1][j + 1] > table[i][j + 1] + table[i + 1][j]:
                    return (i, j)
        return None

    def test_samples(self):
        for table in sample_tables(5):
            found = first_crossing(table)
            self.assertEqual(found, self.first(table), table)
            self.assertEqual(found is None, straight_by_all_pairs(table))
            if found is not None:
                self.assertEqual([type(found)] + [type(at) for at in found], [tuple, int, int])

    def test_by_rows_and_then_by_columns(self):
        # The crossings that pay are those at (0, 2), (1, 0) and (2, 1).
        gains = ((0, 0, -1), (-1, 0, 0), (0, -1, 0))
        table = tuple(
            tuple(-sum(gains[a][b] for a in range(i) for b in range(j)) for j in range(4))
            for i in range(4)
        )
        self.assertEqual(first_crossing(table), (0, 2))
        self.assertEqual(first_crossing(table[1:]), (0, 0))
        self.assertEqual(first_crossing(table[2:]), (0, 1))
        self.assertEqual(first_crossing(tuple(row[:3] for row in table)), (1, 0))
        self.assertEqual(first_crossing(tuple(row[1:] for row in table)), (0, 1))

    def test_the_last_place_alone(self):
        table = with_entry(((0,) * 8,) * 8, 7, 7, 1)
        self.assertEqual(first_crossing(table), (6, 6))
        self.assertIsNone(first_crossing(with_entry(table, 7, 7, -1)))
        self.assertEqual(first_crossing(with_entry(((0,) * 8,) * 8, 0, 0, 1)), (0, 0))


class CountCrossingsTest(unittest.TestCase):
    def test_samples(self):
        for table in sample_tables(6):
            count = count_crossings(table)
            self.assertEqual(count, len(paying_crossings(table)), table)
            self.assertIs(type(count), int)

    def test_all_of_them(self):
        table = tuple(tuple(i * j for j in range(8)) for i in range(8))
        self.assertEqual(count_crossings(table), 28 * 28)
        self.assertEqual(count_crossings(table[::-1]), 0)
        self.assertEqual(count_crossings(((0, 0), (0, 1))), 1)
        self.assertEqual(count_crossings(((0, 0, 0), (0, 0, 1))), 2)
        self.assertEqual(count_crossings(((0, 0), (0, 0), (0, 1))), 2)


if __name__ == "__main__":
    unittest.main()
