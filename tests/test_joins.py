"""Points 36 and 37: join trees, what they cost, the least of them."""

import itertools
import unittest

from straightleast.errors import BadNumber, BadSquare, BadTable, BadTree
from straightleast.joins import (
    best_joins, count_best_joins, grows, is_join_tree, join_cost, join_trees, last_splits, least_joins, splits,
)

from tests.samples import (
    FAR, GREAT, Q, SameTest, any_table, chance, deep_objects, doubled, lists_in, odd_objects, soon, square_tables,
    straight_by_all_pairs, straight_table, tables_that_are_not_square, with_entry, wrong_integers_within, wrong_tables,
)

OF_TABLE_ALONE = [grows, least_joins, splits, last_splits, best_joins, count_best_joins]


def trees_of(first, end):
    """All join trees of the things, in no sequence that is told."""
    if end - first == 1:
        return [first]
    return [
        pair
        for middle in range(first + 1, end)
        for pair in itertools.product(trees_of(first, middle), trees_of(middle, end))
    ]


def things_of(tree):
    return [tree] if isinstance(tree, int) else things_of(tree[0]) + things_of(tree[1])


def cost(table, tree):
    if isinstance(tree, int):
        return 0
    things = things_of(tree)
    return cost(table, tree[0]) + cost(table, tree[1]) + table[things[0]][things[-1] + 1]


def parted_at(tree):
    """The place at which the first part ends, None for one thing."""
    return None if isinstance(tree, int) else things_of(tree[0])[-1] + 1


def rank(tree):
    """What the sequence of the trees goes by: how many things the first part has, then the parts."""
    if isinstance(tree, int):
        return (0,)
    return (len(things_of(tree[0])), rank(tree[0]), rank(tree[1]))


def by_stretches(table, told):
    """For each stretch of places what is told of its least trees and their cost."""
    found = []
    for first in range(len(table) - 1):
        row = []
        for end in range(first + 1, len(table)):
            trees = trees_of(first, end)
            least = min(cost(table, tree) for tree in trees)
            row.append(told([tree for tree in trees if cost(table, tree) == least], least))
        found.append(row)
    return found


def grows_by_its_words(table):
    for j in range(len(table)):
        for i in range(j):
            if j + 1 < len(table) and table[i][j] > table[i][j + 1]:
                return False
            if i - 1 >= 0 and table[i][j] > table[i - 1][j]:
                return False
    return True


def growing_table(source, count):
    """Straight, and greater the farther its places are apart: sums of weights between them."""
    weights = [source.randint(0, 9) for _ in range(count)]
    bent = source.choice((1, 2))
    return tuple(
        tuple(sum(weights[min(i, j):max(i, j)]) ** bent for j in range(count)) for i in range(count)
    )


def tables_to_join(seed, most=6):
    source = chance(seed)
    found = [table for table in square_tables(seed, most, 2)]
    found += [growing_table(source, count) for count in range(2, most + 1) for _ in range(4)]
    found += [any_table(source, count, count, 1) for count in range(2, most + 1) for _ in range(4)]
    found += [((0,) * count,) * count for count in range(2, most + 1)]
    return found + [((-3,) * count,) * count for count in range(2, most + 1)]


def wrong_trees(count):
    """Objects that are join trees of no things of so many."""
    wrong = odd_objects() + deep_objects() + [-1, count, FAR, -FAR, GREAT, (), (0,), [0], [0, 1], (0, 1, 2)]
    # Things twice, left out, backwards, beyond; truths, lists, tuples of one and three.
    wrong += [(0, 0), (1, 1), (1, 0), (0, 2), (0, count), (count - 1, count), (-1, 0), ((0, 1), 1), (0, (0, 1))]
    wrong += [((0, 1), (0, 1)), ((0, 1), (1, 2)), (0, (2, 1)), ((1, 0), 2), (0, (1, 3)), (FAR, FAR + 1), (0, FAR)]
    wrong += [(False, True), (False, 1), (0, True), (0, [1]), ([0], 1), [0, (1, 2)], (0, [1, 2]), ([0, 1], 2)]
    wrong += [((0,), 1), (0, (1,)), ((0, 1),), ((0, 1, 2),), (0, 1, 2, 3), (0, None), (None, 0), ("0", 1), (0, "1")]
    wrong += [(0, ()), ((), 0), (0, {}), (0, (1, {})), (0, (1, (2, None))), {0: 1}, (0, {1: 2}), "01", b"01"]
    wrong += [doubled(part, tuple, depth) for part in (0, 1, (0, 1)) for depth in (1, 2, 3, 10, 49)]
    left = right = 0
    for at in range(1, count + 1):
        left = (left, at)
    for at in range(49):
        right = (at, right)
    return wrong + [left, right, (0, doubled(1, tuple, 48)), (doubled(0, tuple, 48), 1)]


class TreesTest(SameTest):
    def test_the_document(self):
        self.same(join_cost(Q, ((0, 1), 2)), 13)
        self.same(join_cost(Q, (0, (1, 2))), 13)

    def test_of_one_thing_of_some_and_of_all(self):
        for thing in range(3):
            self.same(join_cost(Q, thing), 0)
        self.same(join_cost(Q, (0, 1)), 4)
        self.same(join_cost(Q, (1, 2)), 4)
        table = ((1, 2, 3, 4, 5), (6, 7, 8, 9, 10), (11, 12, 13, 14, 15), (16, 17, 18, 19, 20), (21, 22, 23, 24, 25))
        self.same(join_cost(table, ((1, 2), 3)), 9 + 10)
        self.same(join_cost(table, (1, (2, 3))), 15 + 10)
        self.same(join_cost(table, ((0, 1), (2, 3))), 3 + 15 + 5)

    def test_all_trees_of_all_stretches(self):
        for table in tables_to_join(360, 5) + square_tables(361, 6, 6)[:6]:
            for first in range(len(table) - 1):
                for end in range(first + 1, len(table)):
                    for tree in trees_of(first, end):
                        self.same(join_cost(table, tree), cost(table, tree))
                        self.assertIs(is_join_tree(table, tree), (first, end) == (0, len(table) - 1))

    def test_of_seven_things(self):
        source = chance(362)
        for table in (any_table(source, 8, 8), growing_table(source, 8)):
            for tree in trees_of(0, 7):
                self.assertIs(is_join_tree(table, tree), True)
                self.same(join_cost(table, tree), cost(table, tree))

    def test_wrong_trees(self):
        with soon():
            for count in (1, 2, 3, 7):
                table = ((0,) * (count + 1),) * (count + 1)
                right = [tree for first in range(count) for end in range(first + 1, count + 1) for tree in (
                    trees_of(first, end))]
                kinds_of_right = {repr(tree) for tree in right}
                for thing in wrong_trees(count):
                    # Some are trees where there are things enough.
                    if written(thing) and repr(thing) in kinds_of_right:
                        continue
                    with self.assertRaises(BadTree):
                        join_cost(table, thing)
                    self.assertIs(is_join_tree(table, thing), False)

    def test_is_join_tree_of_any_object(self):
        with soon():
            for thing in odd_objects() + deep_objects() + [None, (), 1, -1, FAR, (0, 1), ((0, 1), 2, 3)]:
                self.assertIs(is_join_tree(Q, thing), False)
        self.assertIs(is_join_tree(((0, 0), (0, 0)), 0), True)
        self.assertIs(is_join_tree(((0, 0), (0, 0)), False), False)
        self.assertIs(is_join_tree(Q, (0, (1, 2))), True)
        self.assertIs(is_join_tree(Q, (False, (1, 2))), False)

    def test_join_trees(self):
        self.same(join_trees(1), [0])
        self.same(join_trees(2), [(0, 1)])
        self.same(join_trees(3), [(0, (1, 2)), ((0, 1), 2)])
        self.same(join_trees(4), [
            (0, (1, (2, 3))), (0, ((1, 2), 3)), ((0, 1), (2, 3)), ((0, (1, 2)), 3), (((0, 1), 2), 3),
        ])
        for count, wanted in zip(range(1, 8), (1, 1, 2, 5, 14, 42, 132)):
            found = join_trees(count)
            self.assertEqual(len(found), wanted)
            self.same(found, sorted(trees_of(0, count), key=rank))
        found.append(None)
        self.assertEqual(len(join_trees(7)), 132)

    def test_wrong_numbers(self):
        for count in (0, 8, -1, FAR, -FAR, True, None, (1,)):
            self.assertRaises(BadNumber, join_trees, count)
        with soon():
            for thing in wrong_integers_within(1, 7):
                with self.assertRaises(BadNumber):
                    join_trees(thing)


def written(thing, deep=8):
    """Whether the object is written out soon: of few parts, and nested little."""
    if isinstance(thing, (tuple, list)):
        return deep > 0 and len(thing) < 5 and all(written(part, deep - 1) for part in thing)
    return isinstance(thing, (int, str)) and (not isinstance(thing, str) or len(thing) < 9)


class GrowsTest(SameTest):
    def test_small(self):
        self.assertIs(grows(Q), True)
        self.assertIs(grows(((9, 5), (0, 9))), True)
        self.assertIs(grows(((0, 2, 1), (0, 0, 1), (0, 0, 0))), False)
        self.assertIs(grows(((0, 2, 2), (0, 0, 2), (0, 0, 0))), True)
        self.assertIs(grows(((0, 2, 2), (0, 0, 3), (0, 0, 0))), False)

    def test_just_so_and_one_entry_too_great(self):
        for count in range(3, 9):
            # Each entry is as great as it may be: all above the diagonal are alike.
            table = tuple(tuple(4 if i < j else 9 - i for j in range(count)) for i in range(count))
            self.assertIs(grows(table), True)
            for i, j in itertools.combinations(range(count), 2):
                self.assertIs(grows(with_entry(table, i, j, 5)), (i, j) == (0, count - 1))
                self.assertIs(grows(with_entry(table, i, j, 3)), j == i + 1)
            for i, j in itertools.product(range(count), repeat=2):
                if i >= j:
                    self.assertIs(grows(with_entry(table, i, j, 10 ** 29)), True)

    def test_by_its_words(self):
        source = chance(363)
        for _ in range(300):
            count = source.randint(2, 5)
            table = growing_table(source, count)
            self.assertIs(grows(table), True)
            i, j = source.randrange(count), source.randrange(count)
            other = with_entry(table, i, j, table[i][j] + source.choice((-1, 1)))
            self.assertIs(grows(other), grows_by_its_words(other))
        for table in tables_to_join(364, 8):
            self.assertIs(grows(table), grows_by_its_words(table))


class LeastJoinsTest(SameTest):
    def test_the_document(self):
        self.same(least_joins(Q), [[0, 4, 13], [0, 4], [0]])
        self.same(splits(Q), [[None, 1, 1], [None, 2], [None]])
        self.same(last_splits(Q), [[None, 1, 2], [None, 2], [None]])
        self.same(best_joins(Q), (13, (0, (1, 2))))
        self.same(count_best_joins(Q), 2)

    def test_two_places(self):
        table = ((1, 2), (3, 4))
        self.same(least_joins(table), [[0]])
        self.same(splits(table), [[None]])
        self.same(last_splits(table), [[None]])
        self.same(best_joins(table), (0, 0))
        self.same(count_best_joins(table), 1)

    def test_against_all_trees(self):
        for table in tables_to_join(365) + square_tables(366, 8, 8)[:7]:
            last = len(table) - 1
            self.same(least_joins(table), by_stretches(table, lambda trees, least: least))
            if last > 1:
                first = by_stretches(table, lambda trees, least: min(map(parted_at, trees)) if trees[0] not in (
                    range(last)) else None)
                behind = by_stretches(table, lambda trees, least: max(map(parted_at, trees)) if trees[0] not in (
                    range(last)) else None)
                self.same(splits(table), first)
                self.same(last_splits(table), behind)
            costs = [cost(table, tree) for tree in join_trees(last)]
            found = best_joins(table)
            self.same(found[0], min(costs))
            self.same(join_cost(table, found[1]), found[0])
            # Parted at the first places: the first of the least ones in the sequence of the trees.
            self.same(found[1], join_trees(last)[costs.index(min(costs))])
            self.same(count_best_joins(table), costs.count(min(costs)))

    def test_entries_alike_and_below_0(self):
        for count, wanted in zip(range(2, 9), (1, 1, 2, 5, 14, 42, 132)):
            for entry in (0, 7, -7):
                table = ((entry,) * count,) * count
                self.same(count_best_joins(table), wanted)
                self.same(best_joins(table), ((count - 2) * entry, join_trees(count - 1)[0]))

    def test_straight_tables_that_grow(self):
        source = chance(367)
        checked = 0
        for _ in range(300):
            count = source.randint(2, 8)
            table = growing_table(source, count) if source.random() < 0.5 else straight_table(source, count, count, 1)
            if not (grows(table) and straight_by_all_pairs(table)):
                continue
            checked += 1
            for told in (splits(table), last_splits(table)):
                at = {(i, i + 1 + j): told[i][j] for i in range(count - 1) for j in range(1, len(told[i]))}
                for i, j in at:
                    self.assertLessEqual(at[i, j], at.get((i, j + 1), count))
                    self.assertLessEqual(at[i, j], at.get((i + 1, j), count))
            costs = least_joins(table)
            least = {(i, i + 1 + j): costs[i][j] for i in range(count - 1) for j in range(len(costs[i]))}
            for i, k, j, end in itertools.combinations(range(count), 4):
                self.assertLessEqual(least[i, j] + least[k, end], least[i, end] + least[k, j])
        self.assertGreater(checked, 100)

    def test_lists_are_new_also_within(self):
        for call in (least_joins, splits, last_splits):
            found = [call(Q), call(Q)]
            made = lists_in(found)
            self.assertEqual(len({id(one) for one in made}), len(made))
            wanted = call(Q)
            for one in made:
                one.append(9)
            self.same(call(Q), wanted)


class ErrorsTest(SameTest):
    def test_tables(self):
        with soon():
            for thing in wrong_tables():
                for call in OF_TABLE_ALONE:
                    with self.assertRaises(BadTable):
                        call(thing)
                for call in (join_cost, is_join_tree):
                    with self.assertRaises(BadTable):
                        call(thing, None)
        for table in tables_that_are_not_square() + [((0,),), ((5,),), ((-GREAT,),)]:
            for call in OF_TABLE_ALONE:
                self.assertRaises(BadSquare, call, table)
            for call in (join_cost, is_join_tree):
                self.assertRaises(BadSquare, call, table, None)
                self.assertRaises(BadSquare, call, table, 0)


if __name__ == "__main__":
    unittest.main()
