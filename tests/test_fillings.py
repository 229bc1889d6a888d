"""Points 18 and 19: fillings, corner fillings, prices."""

import itertools
import unittest

from straightleast.errors import BadFilling, BadStocks, BadTable, BadWishes, NotStraight
from straightleast.fillings import corner_filling, filling_cost, filling_holds, prices, prices_hold

from tests.samples import (
    GREAT, Q, SIZES, SameTest, any_table, chance, deep_objects, odd_objects, sample_tables, soon,
    straight_by_all_pairs, straight_table, tables_that_are_not_straight, wrong_tables,
)

MOST = 10 ** 12
FULL = 10 ** 30 - 1


def zeros(height, width):
    return ((0,) * width,) * height


def amounts(source, height, width, bound):
    """Stocks and wishes that are together the same, noughts among them."""
    given = [source.choice((0, bound, source.randint(0, bound), source.randint(0, bound))) for _ in range(height)]
    cuts = sorted(source.randint(0, sum(given)) for _ in range(width - 1))
    if width > 2 and source.random() < 0.3:
        cuts[0] = cuts[1]
    wishes = [end - begin for begin, end in zip([0] + cuts, cuts + [sum(given)])]
    if max(wishes) > MOST:
        return amounts(source, height, width, bound // 8)
    return tuple(given), tuple(wishes)


def fillings(stocks, wishes):
    """All fillings, as lists by places."""
    def rest(at, left, wanted):
        if at == len(stocks) * len(wishes):
            if not any(left) and not any(wanted):
                yield []
            return
        i, j = divmod(at, len(wishes))
        if j == 0 and i > 0 and left[i - 1]:
            return
        for amount in range(min(left[i], wanted[j]) + 1):
            less = left[:i] + (left[i] - amount,) + left[i + 1:]
            fewer = wanted[:j] + (wanted[j] - amount,) + wanted[j + 1:]
            for found in rest(at + 1, less, fewer):
                yield ([(i, j, amount)] if amount else []) + found

    return list(rest(0, tuple(stocks), tuple(wishes)))


def corner_by_the_words(stocks, wishes):
    """The first row with something left to the first column with something wanted, again and again."""
    left, wanted, found = list(stocks), list(wishes), []
    while any(left):
        i = next(i for i, number in enumerate(left) if number)
        j = next(j for j, number in enumerate(wanted) if number)
        amount = min(left[i], wanted[j])
        left[i] -= amount
        wanted[j] -= amount
        found.append((i, j, amount))
    return found


def wrong_amounts(count, right):
    """Objects that are no tuples of so many integers from 0 to 10 ** 12."""
    wrong = odd_objects() + deep_objects() + [(), 0, 5, right + (0,), right[1:], list(right), [right], (right,)]
    wrong += [dict.fromkeys(range(count), 0), (0,) * 9, "0" * count, range(count), (0,) * (count + 1)]
    for at in range(count):
        for entry in (True, False, None, "0", (0,), [0], {}, -1, MOST + 1, GREAT, -GREAT, 10 ** 100, -10 ** 100):
            wrong.append(right[:at] + (entry,) + right[at + 1:])
    return wrong


class CornerFillingTest(SameTest):
    def test_by_hand(self):
        self.same(corner_filling(((7,),), (3,), (3,)), [(0, 0, 3)])
        self.same(corner_filling(((7,),), (0,), (0,)), [])
        self.same(corner_filling(zeros(2, 2), (1, 1), (1, 1)), [(0, 0, 1), (1, 1, 1)])
        self.same(corner_filling(zeros(2, 2), (2, 3), (4, 1)), [(0, 0, 2), (1, 0, 2), (1, 1, 1)])
        self.same(corner_filling(zeros(2, 3), (3, 4), (2, 5, 0)), [(0, 0, 2), (0, 1, 1), (1, 1, 4)])
        self.same(corner_filling(zeros(1, 4), (6,), (1, 0, 2, 3)), [(0, 0, 1), (0, 2, 2), (0, 3, 3)])
        self.same(corner_filling(zeros(4, 1), (1, 0, 2, 3), (6,)), [(0, 0, 1), (2, 0, 2), (3, 0, 3)])
        self.same(corner_filling(zeros(3, 3), (0, 5, 0), (0, 0, 5)), [(1, 2, 5)])
        self.same(corner_filling(zeros(3, 3), (0, 0, 0), (0, 0, 0)), [])
        self.same(corner_filling(Q, (1, 2, 3, 4), (4, 3, 2, 1)), [
            (0, 0, 1), (1, 0, 2), (2, 0, 1), (2, 1, 2), (3, 1, 1), (3, 2, 2), (3, 3, 1),
        ])
        self.same(corner_filling(zeros(2, 2), (MOST, MOST), (MOST, MOST)), [(0, 0, MOST), (1, 1, MOST)])

    def test_by_the_words_of_the_document(self):
        source = chance(81)
        for height, width in SIZES:
            for bound in (1, 2, 9, MOST):
                stocks, wishes = amounts(source, height, width, bound)
                table = any_table(source, height, width)
                found = corner_filling(table, stocks, wishes)
                self.same(found, corner_by_the_words(stocks, wishes))
                self.assertIs(filling_holds(table, stocks, wishes, found), True)
                wanted = sum(amount * table[i][j] for i, j, amount in found)
                self.same(filling_cost(table, stocks, wishes, found), wanted)

    def test_no_filling_of_a_straight_table_costs_less(self):
        source = chance(82)
        more = 0
        for height, width in ((1, 1), (1, 3), (3, 1), (2, 2), (2, 3), (3, 2), (3, 3), (2, 4), (4, 2)):
            for bound in (1, 2, 2, 3):
                stocks, wishes = amounts(source, height, width, bound)
                every = fillings(stocks, wishes)
                for entries in (1, 2, 9):
                    table = straight_table(source, height, width, entries)
                    best = filling_cost(table, stocks, wishes, corner_filling(table, stocks, wishes))
                    costs = [filling_cost(table, stocks, wishes, filling) for filling in every]
                    self.assertEqual(best, min(costs))
                    more += max(costs) > best
        self.assertGreater(more, 20)


class AmountsTest(SameTest):
    def calls(self):
        judges = [(filling_holds, (None,)), (filling_cost, (None,)), (prices_hold, (None,))]
        return [(corner_filling, ()), (prices, ())] + judges

    def test_wrong_stocks(self):
        with soon():
            for call, behind in self.calls():
                for thing in wrong_amounts(3, (1, 2, 3)):
                    with self.assertRaises(BadStocks):
                        call(zeros(3, 4), thing, (1, 2, 3, 0), *behind)
                    with self.assertRaises(BadStocks):
                        call(zeros(3, 4), thing, None, *behind)

    def test_wrong_wishes(self):
        with soon():
            for call, behind in self.calls():
                for thing in wrong_amounts(4, (1, 2, 3, 0)):
                    with self.assertRaises(BadWishes):
                        call(zeros(3, 4), (1, 2, 3), thing, *behind)

    def test_wishes_of_another_sum(self):
        for call, behind in self.calls():
            for wishes in ((1, 2, 3, 1), (0, 0, 0, 0), (1, 2, 2, 0), (MOST, 0, 0, 0), (5, 0, 0, 0), (7, 0, 0, 0)):
                self.assertRaises(BadWishes, call, zeros(3, 4), (1, 2, 3), wishes, *behind)
            self.assertRaises(BadWishes, call, zeros(2, 2), (0, 0), (-1, 1), *behind)
            self.assertRaises(BadWishes, call, zeros(2, 1), (MOST, 1), (MOST + 1,), *behind)
            self.assertRaises(BadStocks, call, zeros(1, 2), (MOST + 1,), (MOST, 1), *behind)

    def test_the_table_is_asked_ahead(self):
        with soon():
            for call, behind in self.calls():
                for thing in wrong_tables():
                    with self.assertRaises(BadTable):
                        call(thing, None, None, *behind)
        for call, behind in ((prices, ()), (prices_hold, (None,))):
            for table in tables_that_are_not_straight():
                self.assertRaises(NotStraight, call, table, None, None, *behind)

    def test_tables_that_are_not_straight_have_fillings(self):
        self.same(corner_filling(Q[::-1], (1, 0, 0, 0), (0, 0, 0, 1)), [(0, 3, 1)])
        self.same(filling_cost(Q[::-1], (1, 0, 0, 0), (1, 0, 0, 0), [(0, 0, 1)]), 9)


class FillingHoldsTest(SameTest):
    table, stocks, wishes = ((1, 5, 2), (4, 3, 9)), (3, 4), (2, 5, 0)
    right = [(0, 0, 1), (0, 1, 2), (1, 0, 1), (1, 1, 3)]

    def wrong(self, thing, stocks=None, wishes=None):
        told = (self.table, stocks or self.stocks, wishes or self.wishes, thing)
        self.assertIs(filling_holds(*told), False)
        with self.assertRaises(BadFilling):
            filling_cost(*told)

    def test_other_fillings(self):
        every = fillings(self.stocks, self.wishes)
        self.assertEqual(len(every), 3)
        for thing in every:
            self.assertIs(filling_holds(self.table, self.stocks, self.wishes, thing), True)
            wanted = sum(self.table[i][j] * amount for i, j, amount in thing)
            self.same(filling_cost(self.table, self.stocks, self.wishes, thing), wanted)
        self.same(filling_cost(self.table, self.stocks, self.wishes, self.right), 24)

    def test_every_list_of_small_entries(self):
        entries = list(itertools.product(range(-1, 3), range(-1, 3), range(-1, 4)))
        stocks, wishes = (2, 1), (1, 2)
        right = [list(filling) for filling in fillings(stocks, wishes)]
        for length in range(3):
            for thing in itertools.product(entries, repeat=length):
                wanted = list(thing) in right
                self.assertIs(filling_holds(zeros(2, 2), stocks, wishes, list(thing)), wanted)
        self.assertIn([(0, 0, 1), (0, 1, 1), (1, 1, 1)], right)
        self.assertIs(filling_holds(zeros(2, 2), stocks, wishes, [(0, 0, 1), (0, 1, 1), (1, 1, 1)]), True)

    def test_an_amount_at_every_place(self):
        for height, width in SIZES:
            thing = [(i, j, i + j + 1) for i in range(height) for j in range(width)]
            stocks = tuple(sum(i + j + 1 for j in range(width)) for i in range(height))
            wishes = tuple(sum(i + j + 1 for i in range(height)) for j in range(width))
            table = any_table(chance(120), height, width)
            self.assertIs(filling_holds(table, stocks, wishes, thing), True)
            wanted = sum(table[i][j] * amount for i, j, amount in thing)
            self.same(filling_cost(table, stocks, wishes, thing), wanted)

    def test_another_sequence(self):
        for told in itertools.permutations(self.right):
            if list(told) != self.right:
                self.wrong(list(told))

    def test_a_place_twice(self):
        self.wrong([(0, 0, 1), (0, 1, 1), (0, 1, 1), (1, 0, 1), (1, 1, 3)])
        self.wrong(self.right[:3] + [(1, 1, 1), (1, 1, 2)])
        self.wrong([(0, 0, 1)] + self.right)
        self.wrong(self.right * 2)

    def test_amounts_of_0_and_below_it(self):
        self.wrong([(0, 0, 1), (0, 1, 2), (0, 2, 0), (1, 0, 1), (1, 1, 3)])
        self.wrong([(0, 0, 3), (1, 0, -1), (1, 1, 5)])
        self.wrong([(0, 0, 2), (0, 1, 2), (0, 2, -1), (1, 1, 3), (1, 2, 1)])
        self.wrong([(0, 0, 0)], (0, 0), (0, 0, 0))
        self.assertIs(filling_holds(self.table, (0, 0), (0, 0, 0), []), True)
        self.same(filling_cost(self.table, (0, 0), (0, 0, 0), []), 0)

    def test_sums_that_are_not_right(self):
        for at, step in itertools.product(range(4), (-1, 1, 5, 10 ** 100)):
            thing = list(self.right)
            thing[at] = thing[at][:2] + (thing[at][2] + step,)
            self.wrong(thing)
        self.wrong([(0, 0, 2), (0, 1, 2), (1, 1, 3)])
        self.wrong([(0, 0, 1), (0, 1, 2), (1, 1, 4)])
        self.wrong([])
        self.wrong([(0, 0, 3), (1, 1, 4)])

    def test_places_beyond(self):
        for wrong in ((2, 0), (-1, 0), (0, 3), (0, -1), (10 ** 100, 0), (0, 10 ** 100), (-2, 0), (0, -3), (1, 3)):
            self.wrong([(*wrong, 1)] + self.right)
            self.wrong(self.right + [(*wrong, 1)])
            self.wrong([(*wrong, 1)])
        self.wrong([(-2, -3, 1), (0, 1, 2), (1, 0, 1), (1, 1, 3)])

    def test_other_kinds(self):
        self.wrong(tuple(self.right))
        self.wrong([list(told) for told in self.right])
        self.wrong(self.right[:3] + [[1, 1, 3]])
        for wrong in (True, False, None, "1", (1,), [1], {}):
            for at, part in itertools.product(range(4), range(3)):
                told = self.right[at][:part] + (wrong,) + self.right[at][part + 1:]
                self.wrong(self.right[:at] + [told] + self.right[at + 1:])
        for wrong in ((1, 1), (1, 1, 3, 0), (), (3,), None, 3, "113", {1: 1}, [], range(3), b"113"):
            self.wrong(self.right[:3] + [wrong])
        self.wrong([(False, False, True)], (1, 0), (1, 0, 0))
        self.assertIs(filling_holds(self.table, (1, 0), (1, 0, 0), [(0, 0, 1)]), True)

    def test_any_object(self):
        with soon():
            for thing in odd_objects() + deep_objects():
                self.wrong(thing)
                self.wrong([thing])
                self.wrong([(0, 0, thing)])
                self.wrong([(0, 0, 1), (0, 1, 2), (1, 0, 1), (1, thing, 3)])
            self.wrong([(0, 0, 1)] * 10 ** 6)
            self.wrong(None)


def conditions(table, stocks, wishes, rows, columns):
    """Both conditions of point 19, at all entries."""
    filled = {(i, j) for i, j, _ in corner_by_the_words(stocks, wishes)}
    for i, j in itertools.product(range(len(table)), range(len(table[0]))):
        left = table[i][j] - rows[i] - columns[j]
        if left < 0 or (i, j) in filled and left != 0:
            return False
    return True


def prices_within(table, stocks, wishes, bound):
    """Whether there are any prices from -bound to bound: no round of conditions is below 0."""
    height, width = len(table), len(table[0])
    nought = height + width
    steps = [(height + j, i, table[i][j]) for i in range(height) for j in range(width)]
    steps += [(i, height + j, -table[i][j]) for i, j, _ in corner_by_the_words(stocks, wishes)]
    steps += [(nought, at, bound) for at in range(nought)] + [(at, nought, bound) for at in range(nought)]
    least = [0] * (nought + 1)
    for _ in range(nought + 2):
        before = list(least)
        for one, other, number in steps:
            least[other] = min(least[other], least[one] + number)
        if least == before:
            return True
    return False


class PricesTest(SameTest):
    def right(self, table, stocks, wishes):
        found = prices(table, stocks, wishes)
        rows, columns = found
        self.same(found, (tuple(int(price) for price in rows), tuple(int(price) for price in columns)))
        self.assertEqual((len(rows), len(columns)), (len(table), len(table[0])))
        self.assertTrue(all(abs(price) <= FULL for price in rows + columns), found)
        self.assertTrue(conditions(table, stocks, wishes, rows, columns))
        self.assertIs(prices_hold(table, stocks, wishes, found), True)
        return found

    def test_samples(self):
        source = chance(83)
        for height, width in SIZES:
            for bound in (1, 9, 10 ** 26):
                table = straight_table(source, height, width, bound)
                for most in (0, 1, 2, MOST):
                    self.right(table, *amounts(source, height, width, most))

    def test_all_small_ones(self):
        for table in sample_tables(84)[::3]:
            if max(len(table), len(table[0])) <= 3 and straight_by_all_pairs(table):
                for stocks in itertools.product((0, 1, 2), repeat=len(table)):
                    wishes = (0,) * (len(table[0]) - 1) + (sum(stocks),)
                    self.right(table, stocks, wishes)
                    self.right(table, stocks, wishes[::-1])

    def test_by_hand(self):
        self.same(prices(((0, 0), (0, 0)), (1, 1), (1, 1)), ((0, 0), (0, 0)))
        rows, columns = self.right(Q, (1, 2, 3, 4), (4, 3, 2, 1))
        self.assertEqual([row - rows[0] for row in rows], [0, 1, 4, 7])
        self.assertEqual([column - columns[0] for column in columns], [0, -3, -6, -7])
        self.assertEqual(rows[0] + columns[0], 0)

    def test_numbers_of_twenty_nine_digits(self):
        source = chance(85)
        entry = 10 ** 29 - 1
        self.right(((-entry, entry), (-3 * entry, -entry)), (1, 2), (0, 3))
        self.right(((-entry, entry), (entry, -entry)), (1, 2), (2, 1))
        self.right(((-entry, entry), (-entry, -entry)), (2, 1), (1, 2))
        for height, width in SIZES:
            table = straight_table(source, height, width, 10 ** 27)
            greatest = max(abs(number) for row in table for number in row)
            table = tuple(tuple(number * (entry // max(greatest, 1)) for number in row) for row in table)
            for most in (0, 1, 3, MOST):
                self.right(table, *amounts(source, height, width, most))

    def test_numbers_of_thirty_digits_by_other_means(self):
        source = chance(121)
        found = [0, 0]
        for _ in range(400):
            height, width = source.choice(SIZES)
            table = straight_table(source, height, width, source.choice((1, 2, 9)))
            low = min(min(row) for row in table)
            high = max(max(row) for row in table)
            times = 2 * FULL // max(high - low, 1)
            table = tuple(tuple((entry - low) * times - FULL for entry in row) for row in table)
            stocks, wishes = amounts(source, height, width, source.choice((0, 1, 2, 5)))
            there_are = prices_within(table, stocks, wishes, FULL)
            found[there_are] += 1
            if there_are:
                self.right(table, stocks, wishes)
        self.assertGreater(min(found), 0)

    def test_numbers_of_thirty_digits_where_there_are_such_prices(self):
        source = chance(86)
        for height, width in SIZES:
            rows = [source.choice((-FULL, FULL, source.randint(-FULL, FULL))) for _ in range(height)]
            columns = [source.choice((-1, 1)) * source.randint(0, 9) for _ in range(width)]
            table = tuple(tuple(max(-FULL, min(FULL, up + over)) for over in columns) for up in rows)
            if straight_by_all_pairs(table):
                self.right(table, *amounts(source, height, width, 3))
            self.right(((FULL,) * width,) * height, *amounts(source, height, width, 3))
            self.right(((-FULL,) * width,) * height, *amounts(source, height, width, 3))
        # Bound to one another by nothing, these have prices though the path of
        # all corners would lead to ones of thirty-one digits.
        table = ((-FULL, FULL), (-FULL, -FULL))
        for stocks, wishes in (((0, 0), (0, 0)), ((1, 0), (1, 0)), ((0, 1), (0, 1)), ((1, 1), (1, 1))):
            self.right(table, stocks, wishes)


class PricesHoldTest(SameTest):
    table, stocks, wishes = Q, (1, 2, 3, 4), (4, 3, 2, 1)

    def holds(self, thing, wanted, told=None):
        self.assertIs(prices_hold(*(told or (self.table, self.stocks, self.wishes)), thing), wanted)

    def test_other_such_prices(self):
        rows, columns = prices(self.table, self.stocks, self.wishes)
        for step in (-10 ** 28, -17, -1, 0, 1, 2, 10 ** 28):
            self.holds((tuple(row + step for row in rows), tuple(column - step for column in columns)), True)

    def test_prices_of_more_than_thirty_digits(self):
        told = (((0,),), (0,), (0,))
        self.holds(((FULL,), (-FULL,)), True, told)
        self.holds(((-FULL,), (FULL,)), True, told)
        self.holds(((FULL + 1,), (-FULL - 1,)), False, told)
        self.holds(((-FULL,), (-FULL - 1,)), False, told)
        self.holds(((10 ** 100,), (-10 ** 100,)), False, told)

    def test_off_by_one(self):
        rows, columns = prices(self.table, self.stocks, self.wishes)
        for at, step in itertools.product(range(4), (-1, 1, 10 ** 29, -10 ** 29)):
            self.holds((rows[:at] + (rows[at] + step,) + rows[at + 1:], columns), False)
            self.holds((rows, columns[:at] + (columns[at] + step,) + columns[at + 1:]), False)

    def test_all_small_prices(self):
        source = chance(87)
        held = 0
        for _ in range(12):
            table = straight_table(source, 2, 2, 2)
            stocks, wishes = amounts(source, 2, 2, 2)
            for told in itertools.product(range(-3, 4), repeat=4):
                wanted = conditions(table, stocks, wishes, told[:2], told[2:])
                held += wanted
                self.holds((told[:2], told[2:]), wanted, (table, stocks, wishes))
        self.assertGreater(held, 100)

    def test_without_amounts_anything_that_is_not_more(self):
        told = (Q, (0,) * 4, (0,) * 4)
        self.holds(((0,) * 4, (0,) * 4), True, told)
        self.holds(((-99,) * 4, (-99,) * 4), True, told)
        self.holds(((1, 0, 0, 0), (0, 0, 0, 0)), False, told)
        self.holds(((0, 0, 0, 0), (0, 0, 0, 1)), False, told)
        self.holds(((1, 0, 0, 0), (-1, 0, 0, 0)), True, told)
        self.holds(((2, 0, 0, 0), (-2, 0, 0, 0)), False, told)
        self.holds(((2, 0, 0, 0), (-2, -1, 0, 0)), True, told)

    def test_other_sizes_and_kinds(self):
        rows, columns = right = prices(self.table, self.stocks, self.wishes)
        self.holds(right, True)
        for wrong in (
            list(right), (list(rows), columns), (rows, list(columns)), (rows,), (rows, columns, ()), (columns,), (),
            rows, rows + columns, (rows + (0,), columns), (rows, columns + (0,)), (rows[1:], columns),
            (rows, columns[1:]), ((), ()), {0: rows, 1: columns}, {"rows": rows}, None, True, 0, str(right),
        ):
            self.holds(wrong, False)
        for wrong in (True, False, None, "1", (1,), [1], {}):
            for at in range(4):
                self.holds((rows[:at] + (wrong,) + rows[at + 1:], columns), False)
                self.holds((rows, columns[:at] + (wrong,) + columns[at + 1:]), False)
        self.holds(((False,), (False,)), False, (((0,),), (1,), (1,)))
        self.holds(((0,), (0,)), True, (((0,),), (1,), (1,)))

    def test_any_object(self):
        with soon():
            for thing in odd_objects() + deep_objects():
                self.holds(thing, False)
                self.holds((thing, (0,) * 4), False)
                self.holds(((0,) * 4, thing), False)
                self.holds(((0, 0, 0, thing), (0,) * 4), False)


if __name__ == "__main__":
    unittest.main()
