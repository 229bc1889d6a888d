"""Points 38 and 39: houses on a street, posts at some of them, the best posts."""

import itertools
import unittest

from straightleast.climbs import best_climb, climb_sums
from straightleast.errors import BadHouses, BadIndex, BadNumber, BadPosts
from straightleast.posts import (
    best_posts, post_stretches, post_sums, posts_at_price, posts_cost, stretch_cost, stretch_table,
)
from straightleast.tables import is_table

from tests.samples import (
    FAR, GREAT, SameTest, chance, deep_objects, odd_objects, soon, straight_by_all_pairs, wrong_indexes,
    wrong_integers, wrong_integers_within,
)

FAREST = 10 ** 12


def some_houses(seed, many=12):
    """Of each number: spread, crowded, at one place, at the ends of the bounds."""
    source = chance(seed)
    found = [(0, 1, 5, 6), (-FAREST, FAREST), (-FAREST,) * 3 + (0,) + (FAREST,) * 3, (0,), (-7,), (3, 3)]
    for count in range(1, 8):
        found.append((5,) * count)
        for bound in (2, 9, 100, FAREST):
            for _ in range(many // 4):
                found.append(tuple(sorted(source.randint(-bound, bound) for _ in range(count))))
    return found


def all_posts(houses):
    places = range(len(houses))
    return [posts for count in range(1, len(houses) + 1) for posts in itertools.combinations(places, count)]


def cost(houses, posts):
    return sum(min(abs(house - houses[post]) for post in posts) for house in houses)


def nearest(houses, posts, house):
    """The first of the nearest posts, by its place among the posts."""
    best = None
    for at, post in enumerate(posts):
        if best is None or abs(houses[post] - houses[house]) < abs(houses[posts[best]] - houses[house]):
            best = at
    return best


def stretch(houses, first, end):
    sums = {
        house: sum(abs(houses[house] - houses[other]) for other in range(first, end)) for house in range(first, end)
    }
    least = min(sums.values())
    return (least, min(house for house in sums if sums[house] == least))


def best(houses, count):
    return min((cost(houses, posts), posts) for posts in itertools.combinations(range(len(houses)), count))


def wrong_houses():
    wrong = odd_objects() + deep_objects() + [0, 1, FAR, (), [0], [0, 1], {0}, range(3), ((0, 1),), "0 1"]
    wrong += [(1, 0), (0, 1, 0), (0, 2, 1), (5, 5, 4), (0, -1), (0,) * 8, tuple(range(8)), (0,) * 9]
    wrong += [(FAREST + 1,), (-FAREST - 1,), (0, FAREST + 1), (-FAREST - 1, 0), (FAR,), (-FAR,), (0, FAR), (GREAT,)]
    for entry in (True, False, None, "0", (0,), [0], {}, b"0"):
        wrong += [(entry,), (0, entry), (entry, 0), (0, 1, entry), (0,) * 6 + (entry,)]
    return wrong


class CostTest(SameTest):
    def test_the_document(self):
        self.same(posts_cost((0, 1, 5, 6), (1, 2)), 2)

    def test_one_house_and_all_houses(self):
        self.same(posts_cost((9,), (0,)), 0)
        self.same(post_stretches((9,), (0,)), [(0, 1)])
        for houses in some_houses(380):
            every = tuple(range(len(houses)))
            self.same(posts_cost(houses, every), 0)

    def test_all_posts(self):
        for houses in some_houses(381):
            for posts in all_posts(houses):
                self.same(posts_cost(houses, posts), cost(houses, posts))

    def test_stretches_of_all_posts(self):
        for houses in some_houses(382):
            for posts in all_posts(houses):
                wanted = [nearest(houses, posts, house) for house in range(len(houses))]
                found = post_stretches(houses, posts)
                self.assertEqual(len(found), len(posts))
                ahead = 0
                for at, (first, end) in enumerate(found):
                    near = [house for house, post in enumerate(wanted) if post == at]
                    self.assertEqual(near, list(range(first, end)))
                    if first == end:
                        self.assertEqual(first, ahead)
                    ahead = end
                self.same(found, [tuple(pair) for pair in found])
                self.assertEqual(ahead, len(houses))

    def test_posts_equally_near(self):
        self.same(post_stretches((0, 1, 2), (0, 2)), [(0, 2), (2, 3)])
        self.same(post_stretches((0, 5, 10, 15, 20), (0, 2, 4)), [(0, 2), (2, 4), (4, 5)])

    def test_posts_that_are_the_nearest_of_none(self):
        self.same(post_stretches((3, 3, 3), (0, 1, 2)), [(0, 3), (3, 3), (3, 3)])
        self.same(post_stretches((0, 3, 3, 9), (0, 1, 2, 3)), [(0, 1), (1, 3), (3, 3), (3, 4)])
        self.same(post_stretches((3, 3, 8), (1, 2)), [(0, 2), (2, 3)])

    def test_stretch_cost_against_trying_each_house(self):
        self.same(stretch_cost((0, 1, 5, 6), 0, 4), (10, 1))
        self.same(stretch_cost((0, 1, 5, 6), 2, 4), (1, 2))
        self.same(stretch_cost((0, 1, 5, 6), 3, 4), (0, 3))
        for houses in some_houses(383):
            for first, end in itertools.combinations(range(len(houses) + 1), 2):
                self.same(stretch_cost(houses, first, end), stretch(houses, first, end))

    def test_errors(self):
        with soon():
            for thing in wrong_houses():
                for call, behind in ((posts_cost, 1), (post_stretches, 1), (stretch_cost, 2)):
                    with self.assertRaises(BadHouses):
                        call(thing, *(None,) * behind)
            for call in (posts_cost, post_stretches):
                for count in (1, 2, 4, 7):
                    for thing in wrong_indexes(count):
                        with self.assertRaises(BadPosts):
                            call(tuple(range(count)), thing)
        for posts in ((), (1, 1), (2, 1), (0, 4), (4,), (-1,), (0, FAR), [0], (True,), (0, True)):
            self.assertRaises(BadPosts, posts_cost, (0, 1, 5, 6), posts)
            self.assertRaises(BadPosts, post_stretches, (0, 1, 5, 6), posts)

    def test_wrong_indexes(self):
        houses = (0, 1, 5, 6)
        for first, end in ((0, 0), (1, 1), (2, 1), (-1, 2), (4, 5), (4, 4), (0, 5), (FAR, FAR), (0, FAR), (0, -1)):
            self.assertRaises(BadIndex, stretch_cost, houses, first, end)
        with soon():
            for thing in wrong_integers_within(0, 3):
                with self.assertRaises(BadIndex):
                    stretch_cost(houses, thing, None)
            for thing in wrong_integers_within(2, 4):
                with self.assertRaises(BadIndex):
                    stretch_cost(houses, 1, thing)


class BestTest(SameTest):
    def test_the_document(self):
        self.same(best_posts((0, 1, 5, 6), 2), (2, (0, 2)))
        self.same(post_sums((0, 1, 5, 6)), [10, 2, 1, 0])

    def test_against_all_posts(self):
        for houses in some_houses(384):
            for count in range(1, len(houses) + 1):
                self.same(best_posts(houses, count), best(houses, count))
            self.same(post_sums(houses), [best(houses, count)[0] for count in range(1, len(houses) + 1)])

    def test_one_post_more_never_saves_more(self):
        for houses in some_houses(385, 60):
            sums = post_sums(houses)
            saved = [one - two for one, two in zip(sums, sums[1:])]
            self.assertEqual(saved, sorted(saved, reverse=True))
            self.assertTrue(all(number >= 0 for number in saved))

    def test_at_a_price(self):
        self.same(posts_at_price((0, 1, 5, 6), 8), (1, 18))
        self.same(posts_at_price((0, 1, 5, 6), 7), (2, 16))
        self.same(posts_at_price((0, 1, 5, 6), 1), (2, 4))
        self.same(posts_at_price((0, 1, 5, 6), 0), (4, 0))
        self.same(posts_at_price((0, 1, 5, 6), -5), (4, -20))
        self.same(posts_at_price((3, 3, 3), 0), (1, 0))
        for houses in some_houses(386):
            sums = [best(houses, count)[0] for count in range(1, len(houses) + 1)]
            saved = [one - two for one, two in zip(sums, sums[1:])]
            # At a saving one post more does not pay, at one less it does.
            prices = [0, -1, -10 ** 12, 10 ** 20, -10 ** 20, 3]
            for price in prices + saved + [one - 1 for one in saved] + [one + 1 for one in saved]:
                totals = [total + price * number for number, total in enumerate(sums, 1)]
                wanted = (totals.index(min(totals)) + 1, min(totals))
                self.same(posts_at_price(houses, price), wanted)

    def test_the_table_of_stretches(self):
        for houses in some_houses(387):
            table = stretch_table(houses)
            self.assertIs(is_table(table), True)
            self.same(table, tuple(
                tuple(stretch(houses, i, j)[0] if i < j else 0 for j in range(len(houses) + 1))
                for i in range(len(houses) + 1)
            ))
            self.assertTrue(straight_by_all_pairs(table))
            self.same(climb_sums(table), post_sums(houses))
            for count in range(1, len(houses) + 1):
                self.same(best_climb(table, count)[0], best_posts(houses, count)[0])

    def test_lists_are_new(self):
        houses = (0, 1, 5, 6)
        for call, told in ((post_sums, (houses,)), (post_stretches, (houses, (1, 2)))):
            found = call(*told)
            wanted = list(found)
            found.append(None)
            self.same(call(*told), wanted)

    def test_errors(self):
        with soon():
            for thing in wrong_houses():
                for call in (post_sums, stretch_table):
                    with self.assertRaises(BadHouses):
                        call(thing)
                for call in (best_posts, posts_at_price):
                    with self.assertRaises(BadHouses):
                        call(thing, None)
            for count in (1, 4, 7):
                for thing in wrong_integers_within(1, count) + [0, count + 1]:
                    with self.assertRaises(BadNumber):
                        best_posts(tuple(range(count)), thing)
            for thing in wrong_integers():
                with self.assertRaises(BadNumber):
                    posts_at_price((0, 1, 5, 6), thing)


if __name__ == "__main__":
    unittest.main()
