"""Points 8 and 9: gains, tables built of them, the room of each entry."""

import itertools
import unittest

from straightleast.errors import BadIndex, BadIndexes, BadNumber, BadParts, BadTable, NotStraight
from straightleast.parts import built, changed, gain, parts, rooms
from straightleast.tables import is_straight

from tests.samples import (
    GREAT, Q, SIZES, SameTest, any_table, chance, deep_objects, odd_objects, sample_tables, soon,
    straight_by_all_pairs, straight_table, tables_that_are_not_straight, with_entry, wrong_integers,
    wrong_integers_within,
)

SMALL = 10 ** 29 - 1


def any_parts(source, height, width, bound):
    """Parts as the document tells them, made of numbers alone."""
    return (
        tuple(source.randint(-bound, bound) for _ in range(height)),
        tuple(source.randint(-bound, bound) for _ in range(width - 1)),
        tuple(tuple(source.randint(-bound, bound) for _ in range(width - 1)) for _ in range(height - 1)),
    )


class PartsTest(SameTest):
    def test_the_example(self):
        self.same(parts(Q), ((0, 1, 4, 9), (1, 4, 9), ((2, 2, 2), (2, 2, 2), (2, 2, 2))))
        self.same(built(((0, 1, 4, 9), (1, 4, 9), ((2, 2, 2), (2, 2, 2), (2, 2, 2)))), Q)

    def test_small(self):
        self.same(parts(((5,),)), ((5,), (), ()))
        self.same(parts(((5, 3, 9),)), ((5,), (-2, 4), ()))
        self.same(parts(((5,), (3,), (9,))), ((5, 3, 9), (), ((), ())))
        self.same(parts(((1, 2), (3, 9))), ((1, 3), (1,), ((-5,),)))
        self.same(built(((5,), (), ())), ((5,),))
        self.same(built(((5,), (-2, 4), ())), ((5, 3, 9),))
        self.same(built(((5, 3, 9), (), ((), ()))), ((5,), (3,), (9,)))
        self.same(built(((1, 3), (1,), ((-5,),))), ((1, 2), (3, 9)))

    def test_by_the_words_of_the_document(self):
        for table in sample_tables(30):
            height, width = len(table), len(table[0])
            self.same(parts(table), (
                tuple(table[i][0] for i in range(height)),
                tuple(table[0][j] - table[0][0] for j in range(1, width)),
                tuple(
                    tuple(
                        table[i][j + 1] + table[i + 1][j] - table[i][j] - table[i + 1][j + 1]
                        for j in range(width - 1)
                    )
                    for i in range(height - 1)
                ),
            ))

    def test_built_of_the_parts_is_the_table(self):
        for table in sample_tables(31):
            self.same(built(parts(table)), table)

    def test_parts_of_what_is_built_are_what_was_told(self):
        source = chance(32)
        for height, width in SIZES:
            for bound in (0, 1, 9, 10 ** 12, 10 ** 27):
                told = any_parts(source, height, width, bound)
                table = built(told)
                self.assertEqual([len(row) for row in table], [width] * height)
                self.same(parts(table), told)

    def test_numbers_of_twenty_nine_digits(self):
        source = chance(33)
        for height, width in SIZES:
            table = any_table(source, height, width, SMALL)
            self.same(built(parts(table)), table)
        table = ((SMALL, -SMALL), (-SMALL, SMALL))
        self.same(parts(table), ((SMALL, -SMALL), (-2 * SMALL,), ((-4 * SMALL,),)))

    def test_straight_exactly_if_all_gains_are_from_0_on(self):
        for table in sample_tables(34):
            gains = [number for line in parts(table)[2] for number in line]
            self.assertIs(is_straight(table), all(number >= 0 for number in gains))
        source = chance(35)
        for height, width in SIZES:
            left, top, gains = any_parts(source, height, width, 9)
            gains = tuple(tuple(abs(number) for number in line) for line in gains)
            self.assertTrue(straight_by_all_pairs(built((left, top, gains))))
            for i, j in itertools.product(range(height - 1), range(width - 1)):
                wrong = built((left, top, with_entry(gains, i, j, -1)))
                self.assertFalse(straight_by_all_pairs(wrong))


class WrongPartsTest(SameTest):
    def wrong(self, *told):
        with self.assertRaises(BadParts):
            built(told)

    def test_how_many_on_the_left(self):
        for count in range(12):
            told = ((1,) * count, (2, 3), ((4, 5),) * (count - 1))
            if 1 <= count <= 8:
                self.same(parts(built(told)), told)
            else:
                self.wrong(*told)
        self.wrong((), (), ())
        self.wrong((), (1,), ((1,),))

    def test_how_many_on_the_top(self):
        for count in range(12):
            told = ((1, 2), (3,) * count, ((4,) * count,))
            if count <= 7:
                self.same(parts(built(told)), told)
            else:
                self.wrong(*told)

    def test_rows_of_gains_too_few_and_too_many(self):
        for height in range(1, 9):
            for count in range(10):
                told = ((1,) * height, (2, 3), ((4, 5),) * count)
                if count == height - 1:
                    self.same(parts(built(told)), told)
                else:
                    self.wrong(*told)

    def test_rows_of_gains_too_short_and_too_long(self):
        for width in range(8):
            for at in range(3):
                for length in range(10):
                    gains = [(1,) * width] * 3
                    gains[at] = (1,) * length
                    told = ((0,) * 4, (0,) * width, tuple(gains))
                    if length == width:
                        self.same(parts(built(told)), told)
                    else:
                        self.wrong(*told)

    def test_each_number_has_to_be_an_integer(self):
        for wrong in (True, False, None, "1", (1,), [1], {}, ()):
            for at in range(2):
                self.wrong((0,) * at + (wrong,) + (0,) * (1 - at), (0, 0), ((0, 0),))
                self.wrong((0, 0), (0,) * at + (wrong,) + (0,) * (1 - at), ((0, 0),))
                self.wrong((0, 0), (0, 0), ((0,) * at + (wrong,) + (0,) * (1 - at),))

    def test_each_tuple_has_to_be_one(self):
        for left, top, gains in itertools.product(((0, 0), [0, 0]), ((0,), [0]), (((0,),), [(0,)], ([0],), [[0]])):
            if (left, top, gains) == ((0, 0), (0,), ((0,),)):
                self.same(built((left, top, gains)), ((0, 0), (0, 0)))
            else:
                self.wrong(left, top, gains)
        with self.assertRaises(BadParts):
            built([(0, 0), (0,), ((0,),)])

    def test_other_sizes_and_objects(self):
        with soon():
            for thing in odd_objects() + deep_objects() + [Q, 0, (), ((0,), ()), ((0,), (), (), ()), ((0,),)]:
                with self.assertRaises(BadParts):
                    built(thing)
                self.wrong(thing, (0,), ((0,),))
                self.wrong((0, 0), thing, ((0, 0),))
                self.wrong((0, 0), (0, 0, 0), thing)
                self.wrong((0, 0), (0, 0, 0), (thing,))
        with self.assertRaises(BadParts):
            built(None)

    def test_great_integers(self):
        self.same(built(((GREAT,), (-GREAT,), ())), ((GREAT, 0),))
        self.same(built(((0, 0), (GREAT,), ((GREAT,),))), ((0, GREAT), (0, 0)))


class GainTest(SameTest):
    def test_small(self):
        self.same(gain(Q, 0, 1, 0, 1), 2)
        self.same(gain(Q, 0, 3, 0, 3), 18)
        self.same(gain(Q, 1, 2, 0, 3), 6)
        self.same(gain(((0, 0), (0, 5)), 0, 1, 0, 1), -5)
        self.same(gain(((7,),), 0, 0, 0, 0), 0)

    def test_all_of_them(self):
        for table in sample_tables(36)[::3]:
            gains = parts(table)[2]
            for i, k in itertools.combinations_with_replacement(range(len(table)), 2):
                for j, last in itertools.combinations_with_replacement(range(len(table[0])), 2):
                    found = gain(table, i, k, j, last)
                    crossing, straight = table[i][last] + table[k][j], table[i][j] + table[k][last]
                    self.assertEqual(found, crossing - straight)
                    self.assertEqual(found, sum(gains[a][b] for a in range(i, k) for b in range(j, last)))
                    if i == k or j == last:
                        self.same(found, 0)

    def test_indexes_below_0_beyond_and_less_than_the_one_ahead(self):
        table = any_table(chance(37), 3, 4)
        for places in itertools.product(range(-2, 6), repeat=4):
            row, other, column, last = places
            if 0 <= row <= other < 3 and 0 <= column <= last < 4:
                gain(table, *places)
            else:
                with self.assertRaises(BadIndexes):
                    gain(table, *places)

    def test_what_is_no_index(self):
        table = any_table(chance(38), 3, 4)
        with soon():
            for at, (low, high) in enumerate(((0, 2), (1, 2), (0, 3), (2, 3))):
                for thing in wrong_integers_within(low, high):
                    places = [1, 2, 2, 3]
                    places[at] = thing
                    with self.assertRaises(BadIndexes):
                        gain(table, *places)
                    with self.assertRaises(BadTable):
                        gain([table], *places)


class RoomsTest(SameTest):
    def test_small(self):
        self.same(rooms(Q)[0][0], (None, 2))
        self.same(rooms(Q)[0][1], (2, 2))
        self.same(rooms(((5,),)), [[(None, None)]])
        self.same(rooms(((5, 3, 8),)), [[(None, None)] * 3])
        self.same(rooms(((5,), (3,))), [[(None, None)], [(None, None)]])
        self.same(rooms(((0, 4), (0, 1))), [[(None, 3), (3, None)], [(3, None), (None, 3)]])
        self.same(rooms(((0, 0), (0, 0))), [[(None, 0), (0, None)], [(0, None), (None, 0)]])

    def straight_tables(self):
        source = chance(39)
        found = [table for table in sample_tables(39) if straight_by_all_pairs(table)]
        return found + [straight_table(source, *size, bound) for size in SIZES for bound in (1, 4, 10 ** 26)]

    def test_by_trying(self):
        for table in self.straight_tables()[::2]:
            found = rooms(table)
            self.assertEqual([len(line) for line in found], [len(table[0])] * len(table))
            for i, j in itertools.product(range(len(table)), range(len(table[0]))):
                self.assertEqual([type(found), type(found[i]), type(found[i][j])], [list, list, tuple])
                down, up = found[i][j]
                self.tried(table, i, j, down, -1)
                self.tried(table, i, j, up, 1)

    def tried(self, table, row, column, room, sign):
        def straight_with(step):
            return is_straight(with_entry(table, row, column, table[row][column] + sign * step))

        if room is None:
            for step in (1, 2, 10 ** 6, 10 ** 27, 10 ** 29):
                self.assertTrue(straight_with(step))
        else:
            self.assertIs(type(room), int)
            self.assertGreaterEqual(room, 0)
            self.assertTrue(straight_with(room))
            self.assertFalse(straight_with(room + 1))

    def test_where_there_is_no_bound(self):
        for table in self.straight_tables():
            height, width = len(table), len(table[0])
            for i, j in itertools.product(range(height), range(width)):
                down, up = rooms(table)[i][j]
                thin = height == 1 or width == 1
                self.assertEqual(down is None, thin or (i, j) in ((0, 0), (height - 1, width - 1)))
                self.assertEqual(up is None, thin or (i, j) in ((0, width - 1), (height - 1, 0)))

    def test_errors(self):
        for table in tables_that_are_not_straight():
            self.assertRaises(NotStraight, rooms, table)
        with soon():
            for thing in odd_objects() + deep_objects():
                with self.assertRaises(BadTable):
                    rooms(thing)


class ChangedTest(SameTest):
    def test_small(self):
        self.same(changed(((5,),), 0, 0, -3), ((-3,),))
        self.same(changed(Q, 0, 0, 2), with_entry(Q, 0, 0, 2))
        self.same(changed(Q, 0, 0, -10 ** 20), with_entry(Q, 0, 0, -10 ** 20))
        self.same(changed(Q, 3, 1, 4), Q)
        self.assertRaises(NotStraight, changed, Q, 0, 0, 3)

    def test_to_within_the_rooms_and_one_beyond(self):
        source = chance(40)
        for height, width in SIZES:
            table = straight_table(source, height, width)
            for i, j in itertools.product(range(height), range(width)):
                for room, sign in zip(rooms(table)[i][j], (-1, 1)):
                    entry = table[i][j]
                    steps = (0, 1, 10 ** 20) if room is None else {0, room // 2, room}
                    for step in steps:
                        found = changed(table, i, j, entry + sign * step)
                        self.same(found, with_entry(table, i, j, entry + sign * step))
                    if room is not None:
                        for step in (room + 1, room + 2, 10 ** 20, 10 ** 100):
                            self.assertRaises(NotStraight, changed, table, i, j, entry + sign * step)

    def test_the_sequence_of_the_errors(self):
        wrong = Q[::-1]
        self.assertRaises(BadTable, changed, [Q], 9, 9, None)
        self.assertRaises(NotStraight, changed, wrong, 9, 9, None)
        self.assertRaises(NotStraight, changed, wrong, 0, 0, 0)
        self.assertRaises(BadIndex, changed, Q, 4, 0, None)
        self.assertRaises(BadIndex, changed, Q, 0, 4, None)
        self.assertRaises(BadIndex, changed, Q, 0, 4, 100)
        self.assertRaises(BadNumber, changed, Q, 0, 0, None)
        self.assertRaises(BadNumber, changed, Q, 0, 0, True)
        self.assertRaises(NotStraight, changed, Q, 0, 0, 100)

    def test_what_is_no_index_and_no_number(self):
        table = straight_table(chance(41), 3, 4)
        with soon():
            for thing in wrong_integers_within(0, 2):
                with self.assertRaises(BadIndex):
                    changed(table, thing, 0, 0)
            for thing in wrong_integers_within(0, 3):
                with self.assertRaises(BadIndex):
                    changed(table, 0, thing, 0)
            for thing in wrong_integers():
                with self.assertRaises(BadNumber):
                    changed(table, 0, 0, thing)


if __name__ == "__main__":
    unittest.main()
