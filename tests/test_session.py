"""Point 34: sessions, their deeds and their undoing."""

import unittest

from straightleast.errors import (
    BadIndex, BadIndexes, BadNumber, BadSizes, BadTable, Full, LeastError, NothingToUndo, NotStraight,
)
from straightleast.least import firsts
from straightleast.pairings import best_pairs
from straightleast.parts import rooms
from straightleast.session import Session

from tests.samples import (
    FAR, Q, SIZES, SameTest, chance, odd_objects, soon, straight_by_all_pairs, straight_table,
    tables_that_are_not_straight, with_entry, wrong_indexes, wrong_integers, wrong_integers_within, wrong_tables,
)

SMALL = ((0, 2, 5), (1, 1, 3))


def lifted_row(table, row, number):
    return tuple(tuple(entry + number * (at == row) for entry in line) for at, line in enumerate(table))


def lifted_column(table, column, number):
    return tuple(tuple(entry + number * (at == column) for at, entry in enumerate(line)) for line in table)


def turned(table):
    return tuple(tuple(line[at] for line in table) for at in range(len(table[0])))


def thinned(table, rows, columns):
    return tuple(tuple(table[row][column] for column in columns) for row in rows)


def added(table, other):
    return tuple(tuple(map(sum, zip(*pair))) for pair in zip(table, other))


def any_indexes(source, count):
    chosen = tuple(at for at in range(count) if source.random() < 0.8)
    return chosen or (source.randrange(count),)


def any_deed(source, table):
    """A deed by its name, what it is told, and the table behind it."""
    height, width = len(table), len(table[0])
    row, column = source.randrange(height), source.randrange(width)
    number = source.choice((0, 1, -3, source.randint(-10 ** 9, 10 ** 9)))
    name = source.choice(("lift_row", "lift_column", "change", "thin", "add", "turn"))
    if name == "lift_row":
        return name, (row, number), lifted_row(table, row, number)
    if name == "lift_column":
        return name, (column, number), lifted_column(table, column, number)
    if name == "change":
        entry = table[row][column] + source.choice((-1, 0, 1, 2, number))
        return name, (row, column, entry), with_entry(table, row, column, entry)
    if name == "thin":
        rows, columns = any_indexes(source, height), any_indexes(source, width)
        return name, (rows, columns), thinned(table, rows, columns)
    if name == "add":
        other = straight_table(source, height, width)
        return name, (other,), added(table, other)
    return name, (), turned(table)


def wrong_deeds(held):
    """Calls that raise an error whatever the straight table is, with the error."""
    height, width = len(held), len(held.table()[0])
    other = ((0,) * (width + 1),) * height
    found = [
        (held.lift_row, (height, 1), BadIndex), (held.lift_row, (-1, None), BadIndex),
        (held.lift_row, (0, True), BadNumber), (held.lift_row, (0, None), BadNumber),
        (held.lift_column, (width, 1), BadIndex),
        (held.lift_column, (None, None), BadIndex), (held.lift_column, (0, "1"), BadNumber),
        (held.change, (height, 0, 0), BadIndex), (held.change, (0, width, None), BadIndex),
        (held.change, (0, 0, None), BadNumber), (held.change, (0, 0, False), BadNumber),
        (held.thin, ((), (0,)), BadIndexes), (held.thin, ((0,), (width,)), BadIndexes),
        (held.thin, ([0], (0,)), BadIndexes), (held.thin, ((0,), (0, 0)), BadIndexes),
        (held.add, (None,), BadTable), (held.add, (other,), BadSizes), (held.add, (((0, 0), (0, 1)),), NotStraight),
        (held.pairs, (-1,), BadNumber), (held.pairs, (min(height, width) + 1,), BadNumber),
        (held.room, (height, 0), BadIndex), (held.room, (0, width), BadIndex), (held.room, (True, 0), BadIndex),
    ]
    if height > 1 and width > 1:
        corner = held.table()[0][0]
        gain = held.table()[0][1] + held.table()[1][0] - corner - held.table()[1][1]
        found.append((held.change, (0, 0, corner + gain + 1), NotStraight))
        found.append((held.change, (0, 0, corner + FAR), NotStraight))
    return found


def least_of(table):
    return min((entry, row, column) for row, line in enumerate(table) for column, entry in enumerate(line))


def filled(table=SMALL, deeds=50):
    """A session with so many deeds in force."""
    held = Session(table)
    for at in range(deeds):
        held.lift_row(0, at)
    return held


class SessionCase(SameTest):
    def holds(self, held, table):
        """The session tells just what the table does."""
        self.same(held.table(), table)
        self.assertEqual(len(held), len(table))
        self.same(held.firsts(), firsts(table))
        self.same(held.firsts(), tuple(line.index(min(line)) for line in table))
        self.same(held.least(), least_of(table))
        self.assertTrue(straight_by_all_pairs(table))

    def tells_more(self, held, table):
        for count in range(min(len(table), len(table[0])) + 1):
            self.same(held.pairs(count), best_pairs(table, count))
        wanted = rooms(table)
        for row in range(len(table)):
            for column in range(len(table[0])):
                self.same(held.room(row, column), wanted[row][column])

    def raises(self, error, call, told):
        with self.assertRaises(LeastError) as caught:
            call(*told)
        self.assertIs(type(caught.exception), error, (call, told))


class BeginTest(SessionCase):
    def test_of_every_size(self):
        source = chance(400)
        for height, width in SIZES:
            table = straight_table(source, height, width)
            held = Session(table)
            self.holds(held, table)
            self.tells_more(held, table)
            self.raises(NothingToUndo, held.undo, ())

    def test_wrong_tables(self):
        with soon():
            for thing in wrong_tables():
                with self.assertRaises(BadTable):
                    Session(thing)
                with self.assertRaises(BadTable):
                    Session(SMALL).add(thing)
        for thing in tables_that_are_not_straight():
            self.raises(NotStraight, Session, (thing,))
            self.raises(NotStraight, Session(SMALL).add, (thing,))

    def test_by_name(self):
        held = Session(table=SMALL)
        self.assertIs(held.lift_row(number=1, row=0), None)
        self.assertIs(held.lift_column(number=1, column=0), None)
        self.assertIs(held.change(number=2, column=0, row=0), None)
        self.assertIs(held.add(table=SMALL), None)
        self.assertIs(held.thin(columns=(0, 1), rows=(0, 1)), None)
        self.same(held.table(), ((2, 5), (3, 2)))
        self.same(held.pairs(count=1), best_pairs(held.table(), 1))
        self.same(held.room(column=0, row=1), rooms(held.table())[1][0])


class DeedsTest(SessionCase):
    def test_each(self):
        for name, told, wanted in (
            ("lift_row", (1, 7), ((0, 2, 5), (8, 8, 10))),
            ("lift_column", (2, -3), ((0, 2, 2), (1, 1, 0))),
            ("change", (1, 2, 4), ((0, 2, 5), (1, 1, 4))),
            ("thin", ((0,), (0, 2)), ((0, 5),)),
            ("add", (SMALL,), ((0, 4, 10), (2, 2, 6))),
            ("turn", (), ((0, 1), (2, 1), (5, 3))),
        ):
            held = Session(SMALL)
            self.assertIs(getattr(held, name)(*told), None)
            self.holds(held, wanted)
            self.tells_more(held, wanted)
            self.assertIs(held.undo(), None)
            self.holds(held, SMALL)
            self.raises(NothingToUndo, held.undo, ())
            self.holds(held, SMALL)

    def test_many_against_a_table_of_the_test_and_back_to_the_beginning(self):
        source = chance(401)
        for _ in range(60):
            tables = [straight_table(source, source.randint(1, 8), source.randint(1, 8))]
            held = Session(tables[0])
            for _ in range(40):
                if source.random() < 0.2 and len(tables) > 1:
                    self.assertIs(held.undo(), None)
                    tables.pop()
                else:
                    name, told, wanted = any_deed(source, tables[-1])
                    if straight_by_all_pairs(wanted):
                        self.assertIs(getattr(held, name)(*told), None)
                        tables.append(wanted)
                    else:
                        self.raises(NotStraight, getattr(held, name), told)
                self.holds(held, tables[-1])
            self.tells_more(held, tables[-1])
            while len(tables) > 1:
                tables.pop()
                held.undo()
                self.holds(held, tables[-1])
            self.raises(NothingToUndo, held.undo, ())
            self.holds(held, tables[0])

    def test_a_deed_that_changes_nothing_is_in_force_too(self):
        held = Session(Q)
        every = (0, 1, 2, 3)
        held.lift_row(0, 5)
        before = held.table()
        for name, told in (
            ("lift_row", (0, 0)), ("lift_column", (3, 0)), ("change", (1, 1, 0)), ("thin", (every, every)),
            ("add", (((0,) * 4,) * 4,)), ("lift_row", (3, 0)),
        ):
            getattr(held, name)(*told)
            self.same(held.table(), before)
        for _ in range(6):
            held.undo()
            self.same(held.table(), before)
        held.undo()
        self.same(held.table(), Q)
        self.raises(NothingToUndo, held.undo, ())
        held = Session(((3,),))
        held.turn()
        held.undo()
        self.raises(NothingToUndo, held.undo, ())

    def test_change_to_within_the_room_and_beyond_it(self):
        source = chance(402)
        for _ in range(60):
            table = straight_table(source, source.randint(1, 5), source.randint(1, 5), 3)
            held = Session(table)
            row, column = source.randrange(len(table)), source.randrange(len(table[0]))
            down, up = held.room(row, column)
            entry = table[row][column]
            for bound, way in ((down, -1), (up, 1)):
                for far in (0, 1, 2, 10 ** 25) if bound is None else (0, bound, bound // 2):
                    held.change(row, column, entry + way * far)
                    self.holds(held, with_entry(table, row, column, entry + way * far))
                    held.undo()
                if bound is not None:
                    for far in (bound + 1, bound + 2, 10 ** 25):
                        self.raises(NotStraight, held.change, (row, column, entry + way * far))
                        self.holds(held, table)

    def test_thin_to_one_row_and_one_column(self):
        for row in range(4):
            for column in range(4):
                held = Session(Q)
                held.thin((row,), (column,))
                self.holds(held, ((Q[row][column],),))
                self.same(held.room(0, 0), (None, None))
                self.same(held.pairs(0), (0, (), ()))
                self.same(held.pairs(1), (Q[row][column], (0,), (0,)))
                held.undo()
                self.holds(held, Q)

    def test_len_behind_turn_and_thin(self):
        held = Session(SMALL)
        self.assertEqual(len(held), 2)
        held.turn()
        self.assertEqual(len(held), 3)
        held.thin((0, 2), (1,))
        self.assertEqual(len(held), 2)
        held.turn()
        self.assertEqual(len(held), 1)
        for wanted in (2, 3, 2):
            held.undo()
            self.assertEqual(len(held), wanted)

    def test_add_of_another_size_or_of_one_that_is_not_straight(self):
        held = Session(SMALL)
        for other in (((0,),), ((0, 0, 0),), ((0, 0),) * 2, ((0, 0),) * 3, ((0,) * 3,) * 3, Q):
            self.raises(BadSizes, held.add, (other,))
        # Not straight comes ahead of another size.
        for other in (((0, 0, 0), (0, 0, 1)), ((0, 0), (0, 1)), Q[::-1]):
            self.raises(NotStraight, held.add, (other,))
        self.holds(held, SMALL)
        self.raises(NothingToUndo, held.undo, ())

    def test_the_least_is_the_first_by_rows_and_then_by_columns(self):
        self.same(Session(((1, 1), (1, 1))).least(), (1, 0, 0))
        self.same(Session(((2, 1, 1), (2, 1, 1))).least(), (1, 0, 1))
        self.same(Session(((2, 3), (1, 1))).least(), (1, 1, 0))
        self.same(Session(((2, 3, 3), (4, 2, 2))).firsts(), (0, 1))


class ErrorsTest(SessionCase):
    def test_what_raised_an_error_has_changed_nothing(self):
        source = chance(403)
        for _ in range(20):
            held = Session(straight_table(source, source.randint(1, 6), source.randint(2, 6)))
            for _ in range(5):
                name, told, wanted = any_deed(source, held.table())
                if straight_by_all_pairs(wanted):
                    getattr(held, name)(*told)
            before = held.copy()
            tables = history(held.copy())
            for call, told, error in wrong_deeds(held):
                self.raises(error, call, told)
                self.assertEqual(held, before)
            self.assertEqual(history(held.copy()), tables)

    def test_odd_objects_in_each_place(self):
        with soon():
            held = Session(Q)
            for thing in wrong_integers_within(0, 3):
                for call, behind in ((held.lift_row, 1), (held.lift_column, 1), (held.change, 2), (held.room, 1)):
                    with self.assertRaises(BadIndex):
                        call(thing, *(None,) * behind)
                with self.assertRaises(BadIndex):
                    held.change(0, thing, None)
                with self.assertRaises(BadIndex):
                    held.room(0, thing)
            for thing in wrong_integers():
                for call, told in ((held.lift_row, (0,)), (held.lift_column, (0,)), (held.change, (0, 0))):
                    with self.assertRaises(BadNumber):
                        call(*told, thing)
            for thing in wrong_integers_within(0, 4):
                with self.assertRaises(BadNumber):
                    held.pairs(thing)
            for thing in wrong_indexes(4):
                with self.assertRaises(BadIndexes):
                    held.thin(thing, None)
                with self.assertRaises(BadIndexes):
                    held.thin((0,), thing)
            self.holds(held, Q)
            self.raises(NothingToUndo, held.undo, ())

    def test_the_fiftieth_deed_and_the_one_behind(self):
        for name, told in (
            ("lift_row", (0, 1)), ("lift_column", (0, 1)), ("change", (0, 0, 0)), ("thin", ((0, 1), (0, 1, 2))),
            ("add", (SMALL,)), ("turn", ()),
        ):
            held = filled(SMALL, 49)
            held.change(0, 0, 0)
            before = held.table()
            self.raises(Full, getattr(held, name), told)
            self.same(held.table(), before)
            # Undo makes room for one again, and for one alone.
            held.undo()
            getattr(held, name)(*told)
            self.raises(Full, held.turn, ())
            for _ in range(50):
                held.undo()
            self.same(held.table(), SMALL)
            self.raises(NothingToUndo, held.undo, ())

    def test_full_comes_behind_all_other_errors(self):
        held = filled()
        for call, told, error in wrong_deeds(held):
            self.raises(error, call, told)
        self.raises(Full, held.lift_row, (0, 0))
        self.same(held.pairs(0), (0, (), ()))
        self.same(held.room(1, 2), rooms(held.table())[1][2])
        self.assertEqual(len(history(held)), 51)

    def test_undo_is_no_deed(self):
        held = Session(SMALL)
        for _ in range(200):
            held.turn()
            held.undo()
        for _ in range(50):
            held.turn()
        self.raises(Full, held.turn, ())
        for _ in range(50):
            held.undo()
        self.holds(held, SMALL)


def history(held):
    """The tables of the session, back to the beginning; it is used up by this."""
    found = [held.table()]
    try:
        while True:
            held.undo()
            found.append(held.table())
    except NothingToUndo:
        return found


class CopyTest(SessionCase):
    def test_it_takes_back_the_same_deeds(self):
        source = chance(404)
        for _ in range(20):
            held = Session(straight_table(source, source.randint(1, 6), source.randint(1, 6)))
            for _ in range(10):
                name, told, wanted = any_deed(source, held.table())
                if straight_by_all_pairs(wanted):
                    getattr(held, name)(*told)
            other = held.copy()
            self.assertIsInstance(other, Session)
            self.assertIsNot(other, held)
            self.assertEqual(other, held)
            self.same(history(other), history(held.copy()))
            self.same(history(held.copy().copy()), history(held))

    def test_it_goes_its_own_way(self):
        held = Session(SMALL)
        held.turn()
        other = held.copy()
        third = other.copy()
        other.lift_row(0, 5)
        self.same(held.table(), turned(SMALL))
        self.same(third.table(), turned(SMALL))
        held.undo()
        held.lift_column(1, 2)
        self.same(other.table(), lifted_row(turned(SMALL), 0, 5))
        third.thin((0,), (0,))
        self.same(history(other), [lifted_row(turned(SMALL), 0, 5), turned(SMALL), SMALL])
        self.same(history(third), [((0,),), turned(SMALL), SMALL])
        self.same(history(held), [lifted_column(SMALL, 1, 2), SMALL])

    def test_its_deeds_count_towards_its_fifty(self):
        held = filled(SMALL, 48)
        other = held.copy().copy()
        other.turn()
        other.turn()
        self.raises(Full, other.turn, ())
        held.turn()
        held.turn()
        self.raises(Full, held.turn, ())
        full = filled().copy()
        self.raises(Full, full.turn, ())
        full.undo()
        full.turn()
        self.raises(Full, full.copy().turn, ())


class EqualTest(SessionCase):
    def test_equal_if_their_tables_are(self):
        held, other = Session(SMALL), Session(turned(SMALL))
        self.assertFalse(held == other)
        self.assertTrue(held != other)
        other.turn()
        self.assertTrue(held == other)
        self.assertFalse(held != other)
        other.lift_row(0, 0)
        self.assertTrue(held == other)
        other.lift_row(0, 1)
        self.assertFalse(held == other)
        self.assertTrue(Session(((1,),)) == Session(((1,),)))
        self.assertFalse(Session(((1,),)) == Session(((1, 1),)))
        self.assertIs(Session(Q) == Session(Q), True)
        self.assertIs(Session(Q) == Session(SMALL), False)

    def test_equal_to_nothing_else(self):
        held = Session(SMALL)
        for thing in odd_objects() + [SMALL, Q, 2, (SMALL,), [SMALL], object(), Session, str(held), Always()]:
            self.assertIs(held == thing, False)
            self.assertIs(held != thing, True)


class Always:
    """Equal to anything, if it is asked."""

    def __eq__(self, other):
        return True


class NewTest(SessionCase):
    def test_nothing_that_was_handed_in_is_kept(self):
        source = tuple([tuple([0, 2, 5]), tuple([1, 1, 3])])
        held = Session(source)
        self.assertIsNot(held.table(), source)
        for line in held.table():
            self.assertFalse(any(line is other for other in source))
        held.add(source)
        held.undo()
        self.same(held.table(), source)
        self.same(source, SMALL)

    def test_equal_calls_tell_the_same(self):
        held = Session(SMALL)
        for _ in range(3):
            self.holds(held, SMALL)
            self.tells_more(held, SMALL)


if __name__ == "__main__":
    unittest.main()
