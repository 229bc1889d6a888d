"""Points 10 and 11: the least of rows and stretches, and where it is looked for."""

import itertools
import unittest

from straightleast.errors import BadIndex, BadTable, NotStraight
from straightleast.least import count_looks, firsts, lasts, least_entries, least_in, least_of_stretch, looks

from tests.samples import (
    GREAT, Q, SIZES, SameTest, any_table, chance, deep_objects, odd_objects, sample_tables, soon,
    straight_by_all_pairs, straight_table, tables_that_are_not_straight, wrong_integers_within,
)


def least_places(row):
    return [j for j, entry in enumerate(row) if all(entry <= other for other in row)]


class LeastOfRowsTest(SameTest):
    def test_small(self):
        self.same(firsts(Q), (0, 1, 2, 3))
        self.same(lasts(Q), (0, 1, 2, 3))
        self.same(least_entries(Q), (0, 0, 0, 0))
        table = ((2, 1, 1, 3, 1), (0, 0, 0, 0, 0), (5, 4, 3, 2, 1), (-1, 0, -1, 0, 0))
        self.same(firsts(table), (1, 0, 4, 0))
        self.same(lasts(table), (4, 4, 4, 2))
        self.same(least_entries(table), (1, 0, 1, -1))
        self.same(firsts(((7,),)), (0,))
        self.same(lasts(((7,),)), (0,))
        self.same(least_entries(((7,),)), (7,))
        self.same(least_entries(((GREAT, -GREAT),)), (-GREAT,))

    def test_samples(self):
        ties = 0
        for table in sample_tables(42):
            places = [least_places(row) for row in table]
            ties += sum(len(found) > 1 for found in places)
            self.same(firsts(table), tuple(found[0] for found in places))
            self.same(lasts(table), tuple(found[-1] for found in places))
            self.same(least_entries(table), tuple(row[found[0]] for row, found in zip(table, places)))
        self.assertGreater(ties, 100)

    def test_they_never_fall_in_a_straight_table(self):
        source = chance(43)
        tables = [table for table in sample_tables(43) if straight_by_all_pairs(table)]
        tables += [straight_table(source, *size, bound) for size in SIZES for bound in (1, 2, 3, 20)]
        for table in tables:
            self.assertEqual(list(firsts(table)), sorted(firsts(table)))
            self.assertEqual(list(lasts(table)), sorted(lasts(table)))


class LeastInTest(SameTest):
    def test_small(self):
        row = ((3, 1, 2, 1, 5),)
        self.same(least_in(row, 0, 0, 5), (1, 1))
        self.same(least_in(row, 0, 2, 5), (1, 3))
        self.same(least_in(row, 0, 2, 3), (2, 2))
        self.same(least_in(row, 0, 4, 5), (5, 4))
        self.same(least_in(row, 0, 0, 1), (3, 0))
        self.same(least_in(((7,),), 0, 0, 1), (7, 0))

    def test_every_stretch(self):
        source = chance(44)
        for height, width in SIZES:
            table = any_table(source, height, width, 2)
            for row in range(height):
                for column in range(-2, width + 3):
                    for end in range(-2, width + 3):
                        if 0 <= column < end <= width:
                            entry = min(table[row][column:end])
                            place = next(j for j in range(column, end) if table[row][j] == entry)
                            self.same(least_in(table, row, column, end), (entry, place))
                        else:
                            with self.assertRaises(BadIndex):
                                least_in(table, row, column, end)

    def test_what_is_no_index(self):
        table = any_table(chance(45), 3, 4)
        with soon():
            for thing in wrong_integers_within(0, 2):
                with self.assertRaises(BadIndex):
                    least_in(table, thing, 0, 1)
            for thing in wrong_integers_within(0, 3):
                with self.assertRaises(BadIndex):
                    least_in(table, 0, thing, 4)
            for thing in wrong_integers_within(2, 4):
                with self.assertRaises(BadIndex):
                    least_in(table, 0, 1, thing)


class LeastOfStretchTest(SameTest):
    def test_small(self):
        self.same(least_of_stretch(Q, 0, 4, 0, 4), (0, 0, 0))
        self.same(least_of_stretch(Q, 1, 4, 0, 4), (0, 1, 1))
        self.same(least_of_stretch(Q, 0, 2, 2, 4), (1, 1, 2))
        self.same(least_of_stretch(Q, 0, 1, 3, 4), (9, 0, 3))
        self.same(least_of_stretch(((7,),), 0, 1, 0, 1), (7, 0, 0))

    def test_the_first_by_rows_and_then_by_columns(self):
        table = ((2, 2, 1), (1, 2, 2), (1, 1, 1))
        self.same(least_of_stretch(table, 0, 3, 0, 3), (1, 0, 2))
        self.same(least_of_stretch(table, 0, 3, 0, 2), (1, 1, 0))
        self.same(least_of_stretch(table, 0, 3, 1, 2), (1, 2, 1))
        self.same(least_of_stretch(table, 1, 3, 1, 3), (1, 2, 1))

    def test_every_stretch(self):
        source = chance(46)
        for height, width in SIZES[::3]:
            table = any_table(source, height, width, 2)
            rows = itertools.product(range(-1, height + 2), repeat=2)
            columns = itertools.product(range(-1, width + 2), repeat=2)
            for (row, stop), (column, end) in itertools.product(rows, columns):
                if 0 <= row < stop <= height and 0 <= column < end <= width:
                    places = itertools.product(range(row, stop), range(column, end))
                    wanted = sorted((table[i][j], i, j) for i, j in places)[0]
                    self.same(least_of_stretch(table, row, stop, column, end), wanted)
                else:
                    with self.assertRaises(BadIndex):
                        least_of_stretch(table, row, stop, column, end)

    def test_what_is_no_index(self):
        table = any_table(chance(47), 3, 4)
        with soon():
            for at, (low, high) in enumerate(((0, 2), (2, 3), (0, 3), (3, 4))):
                for thing in wrong_integers_within(low, high):
                    if isinstance(thing, int) and not isinstance(thing, bool) and at in (0, 2) and thing < high:
                        continue
                    places = [1, 3, 2, 4]
                    places[at] = thing
                    with self.assertRaises(BadIndex):
                        least_of_stretch(table, *places)


def looks_by_the_words(table):
    """As point 11 tells them, stretch by stretch, with the least columns of all rows known."""
    width = len(table[0])
    firsts_of_rows = [least_places(row)[0] for row in table]
    found = []

    def stretch(rows):
        if not rows:
            return
        middle = rows[len(rows) // 2 - (1 if len(rows) % 2 == 0 else 0)]
        start = firsts_of_rows[rows[0] - 1] if rows[0] > 0 else 0
        end = firsts_of_rows[rows[-1] + 1] if rows[-1] + 1 < len(table) else width - 1
        found.extend((middle, j) for j in range(start, end + 1))
        stretch([row for row in rows if row < middle])
        stretch([row for row in rows if row > middle])

    stretch(list(range(len(table))))
    return found


class LooksTest(SameTest):
    def test_the_example(self):
        self.same(looks(Q)[:6], [(1, 0), (1, 1), (1, 2), (1, 3), (0, 0), (0, 1)])
        self.same(looks(Q)[6:], [(2, 1), (2, 2), (2, 3), (3, 2), (3, 3)])
        self.same(count_looks(Q), 11)

    def test_one_row_and_one_column(self):
        self.same(looks(((7,),)), [(0, 0)])
        self.same(looks(((3, 1, 1, 4),)), [(0, 0), (0, 1), (0, 2), (0, 3)])
        self.same(looks(((3,), (1,), (2,), (0,))), [(1, 0), (0, 0), (2, 0), (3, 0)])
        self.same([row for row, _ in looks(((0,),) * 8)], [3, 1, 0, 2, 5, 4, 6, 7])
        self.same([row for row, _ in looks(((0,),) * 7)], [3, 1, 0, 2, 5, 4, 6])
        self.same([row for row, _ in looks(((0,),) * 2)], [0, 1])

    def test_eight_rows_that_are_all_alike(self):
        table = ((1, 0, 0, 1),) * 8
        wanted = [(3, 0), (3, 1), (3, 2), (3, 3)]
        wanted += [(1, 0), (1, 1), (0, 0), (0, 1), (2, 1)]
        wanted += [(5, 1), (5, 2), (5, 3), (4, 1), (6, 1), (6, 2), (6, 3), (7, 1), (7, 2), (7, 3)]
        self.same(looks(table), wanted)

    def test_by_the_words_of_the_document(self):
        source = chance(48)
        tables = [table for table in sample_tables(48) if straight_by_all_pairs(table)]
        tables += [straight_table(source, *size, bound) for size in SIZES for bound in (1, 2, 3, 20)]
        for table in tables:
            found = looks(table)
            self.same(found, looks_by_the_words(table))
            self.same(count_looks(table), len(found))
            self.assertEqual(len(set(found)), len(found))
            for i, row in enumerate(table):
                seen = [row[j] for at, j in found if at == i]
                self.assertEqual(min(seen), min(row))
                self.assertIn((i, least_places(row)[0]), found)

    def test_errors(self):
        for judge in (looks, count_looks):
            for table in tables_that_are_not_straight():
                self.assertRaises(NotStraight, judge, table)
            with soon():
                for thing in odd_objects() + deep_objects():
                    with self.assertRaises(BadTable):
                        judge(thing)


if __name__ == "__main__":
    unittest.main()
