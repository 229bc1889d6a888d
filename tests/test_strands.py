"""Points 26 to 29: strands, their counts, their joinings, the words that make them, what is below them."""

import itertools
import unittest

from straightleast.errors import BadCounts, BadNumber, BadSizes, BadStrands, BadWord, TooMany
from straightleast.products import product
from straightleast.strands import (
    combed, count_meetings, count_words, counts_table, covered, is_below, is_idle, joined, joined_times, rest_of,
    same_combed, strands_of, word_of,
)
from straightleast.tables import is_straight

from tests.samples import FAR, GREAT, SameTest, chance, deep_objects, odd_objects, soon, wrong_integers_within


def rows_of(count):
    return list(itertools.permutations(range(count)))


def any_strands(source, count):
    return tuple(source.sample(range(count), count))


def drawn_strands(seed, many=3, most=12):
    """Some of each number of strands, the straight ones and the turned ones among them."""
    source = chance(seed)
    found = []
    for count in range(1, most + 1):
        found += [tuple(range(count)), tuple(reversed(range(count)))]
        found += [any_strands(source, count) for _ in range(many)]
    return found


def crossing_pairs(strands):
    return [(one, two) for one, two in itertools.combinations(range(len(strands)), 2) if strands[one] > strands[two]]


def counts(strands):
    """The counts table, counted one by one."""
    places = range(len(strands) + 1)
    return tuple(
        tuple(sum(1 for begin, end in enumerate(strands) if begin >= i and end < j) for j in places) for i in places
    )


def least_sums(one, two):
    """Of two counts tables, over the middles."""
    places = range(len(one))
    return tuple(tuple(min(one[i][k] + two[k][j] for k in places) for j in places) for i in places)


def crossings_from_above(strands):
    """Some word that draws the strands, each pair crossing once: the last place is sorted first."""
    ends, word = list(strands), []
    for last in range(len(ends) - 1, 0, -1):
        for at in range(last):
            if ends[at] > ends[at + 1]:
                ends[at], ends[at + 1] = ends[at + 1], ends[at]
                word.append(at)
    return word


def drawn(count, *words):
    """The strands that come of the words, drawn one below the other; which pairs have crossed is noted."""
    standing, crossed = list(range(count)), set()
    for word in words:
        for at in word:
            pair = frozenset(standing[at:at + 2])
            if pair not in crossed:
                crossed.add(pair)
                standing[at:at + 2] = standing[at + 1], standing[at]
    return tuple(standing.index(strand) for strand in range(count))


def words_by_trying(count, most):
    """For each row of strands all its shortest words, of all words up to so long."""
    found = {}
    for length in range(most + 1):
        for word in itertools.product(range(count - 1), repeat=length):
            words = found.setdefault(drawn(count, word), [])
            if not words or len(words[0]) == length:
                words.append(word)
    return found


def wrong_strands():
    wrong = odd_objects() + deep_objects() + [0, 1, -1, GREAT, FAR, ()]
    wrong += [tuple(range(13)), tuple(range(14)), (1,), (-1,), (0, 0), (1, 1), (0, 2), (1, 2), (-1, 0), (0, FAR)]
    wrong += [[0], [0, 1], {0}, {0: 0}, range(2), ((0, 1),), (0, [1]), (0, (1,)), "01", b"01"]
    for count in (1, 2, 3, 7, 12):
        right = tuple(range(count))
        wrong += [list(right), right + (0,), right + (right,), right[:-1] + (count,), right[:-1] + (-1,), right * 2]
        wrong.append(tuple(at + 1 for at in right))
        if count > 1:
            wrong += [right[1:], right[:-1] + right[:1], right[1:] + right[-1:]]
        for at in range(count):
            for entry in (True, False, None, "0", (0,), [0], {}, FAR, -FAR):
                wrong.append(right[:at] + (entry,) + right[at + 1:])
    return wrong


class StrandsCheckTest(SameTest):
    def test_each_function(self):
        first = [count_meetings, counts_table, is_idle, word_of, count_words, covered]
        behind = [joined, joined_times, is_below, rest_of]
        with soon():
            for thing in wrong_strands():
                for call in first:
                    with self.assertRaises(BadStrands):
                        call(thing)
                for call in behind:
                    with self.assertRaises(BadStrands):
                        call(thing, None)
                    if call is not joined_times:
                        with self.assertRaises(BadStrands):
                            call((0,), thing)
                        with self.assertRaises(BadStrands):
                            call(tuple(range(12)), thing)

    def test_one_strand_and_twelve(self):
        for count in (1, 12):
            straight, about = tuple(range(count)), tuple(reversed(range(count)))
            self.same(joined(straight, about), about)
            self.same(joined_times(about, 10 ** 18), about)
            self.same(count_meetings(about), count * (count - 1) // 2)
            self.same(strands_of(counts_table(about)), about)

    def test_both_are_as_many(self):
        for call in (joined, is_below, rest_of):
            for one, two in itertools.permutations(range(1, 13), 2):
                self.assertRaises(BadSizes, call, tuple(range(one)), tuple(range(two)))
            self.assertRaises(BadStrands, call, (0, 1), (1, 1, 0))
            self.assertRaises(BadStrands, call, (1, 1, 0), (0, 1))
            self.assertRaises(BadStrands, call, (0, 1), tuple(range(13)))


class CountsTest(SameTest):
    def test_small(self):
        self.same(counts_table((1, 0)), ((0, 1, 2), (0, 1, 1), (0, 0, 0)))
        self.same(counts_table((0,)), ((0, 1), (0, 0)))
        self.same(count_meetings((0,)), 0)
        self.same(count_meetings((1, 0)), 1)
        self.same(count_meetings((2, 0, 1)), 2)
        self.same(count_meetings((2, 1, 0)), 3)

    def test_by_all_pairs_and_one_by_one(self):
        for strands in drawn_strands(260) + rows_of(4):
            self.same(count_meetings(strands), len(crossing_pairs(strands)))
            self.same(counts_table(strands), counts(strands))
            self.same(strands_of(counts(strands)), strands)

    def test_every_one_of_few_strands(self):
        for count in range(1, 6):
            for strands in rows_of(count):
                self.same(strands_of(counts_table(strands)), strands)

    def test_one_number_exchanged(self):
        for strands in drawn_strands(261, 1, 5) + [any_strands(chance(262), 12)]:
            told = counts(strands)
            # Ends of neighbours exchanged change one number alone.
            near = [strands[:at] + (strands[at + 1], strands[at]) + strands[at + 2:] for at in range(len(strands) - 1)]
            right = {counts(one): one for one in near}
            for i, row in enumerate(told):
                for j, number in enumerate(row):
                    for other in (number + 1, number - 1, -number - 1, FAR, -FAR, bool(number), str(number), None, [0]):
                        thing = told[:i] + (row[:j] + (other,) + row[j + 1:],) + told[i + 1:]
                        if type(other) is int and thing in right:
                            self.same(strands_of(thing), right[thing])
                        else:
                            self.assertRaises(BadCounts, strands_of, thing)

    def test_wrong_counts(self):
        with soon():
            for strands in ((0,), (1, 0), (2, 0, 1), tuple(range(12))):
                told = counts(strands)
                wrong = [told[:-1], told[1:], told + told[-1:], told + (told,), told[::-1], tuple(map(list, told))]
                wrong += [list(told), list(map(list, told)), (told,), told * 2, strands, tuple(zip(*told[:-1]))]
                for at in range(len(told)):
                    row = told[at]
                    for other in (row[:-1], row[1:], row + row[-1:], list(row), (), None, 0, row * 2, (row,)):
                        wrong.append(told[:at] + (other,) + told[at + 1:])
                wrong += [tuple(row[::-1] for row in told), tuple(zip(*told))]
                for thing in wrong:
                    if thing != told:
                        with self.assertRaises(BadCounts):
                            strands_of(thing)
            for thing in odd_objects() + deep_objects() + [(), (0,), ((0,),), ((),), ((0, 0), (0, 0)), 0, FAR]:
                with self.assertRaises(BadCounts):
                    strands_of(thing)
            for size in range(1, 16):
                with self.assertRaises(BadCounts):
                    strands_of(((0,) * size,) * size)
            with self.assertRaises(BadCounts):
                strands_of(counts(tuple(range(13))))
            with self.assertRaises(BadCounts):
                strands_of(counts(tuple(reversed(range(13)))))

    def test_tables_of_a_size_that_fits_but_of_no_strands(self):
        # Both strands end at one place; a strand counts twice; one is missing.
        for wrong in (
            counts((0, 0)), counts((1, 1)), ((0, 2, 2), (0, 1, 1), (0, 0, 0)), ((0, 0, 1), (0, 0, 0), (0, 0, 0)),
            ((1, 2, 3), (1, 2, 2), (1, 1, 1)), ((0, 1, 2), (0, 0, 1), (0, 0, 1)), ((0, 1, 2), (1, 1, 1), (0, 0, 0)),
        ):
            self.assertRaises(BadCounts, strands_of, wrong)
        right = {counts(strands) for strands in rows_of(2)}
        for flat in itertools.product(range(3), repeat=9):
            thing = (flat[:3], flat[3:6], flat[6:])
            if thing not in right:
                self.assertRaises(BadCounts, strands_of, thing)


class JoinedTest(SameTest):
    def check(self, one, two):
        found = joined(one, two)
        self.same(counts(found), least_sums(counts(one), counts(two)))
        self.same(found, drawn(len(one), crossings_from_above(one), crossings_from_above(two)))

    def test_the_document(self):
        self.same(joined((1, 0, 2), (1, 0, 2)), (1, 0, 2))
        self.same(joined((1, 0, 2), (0, 2, 1)), (2, 0, 1))
        self.same(joined((0, 2, 1), (1, 0, 2)), (1, 2, 0))

    def test_all_pairs_of_few_strands(self):
        for count in range(1, 5):
            for one, two in itertools.product(rows_of(count), repeat=2):
                self.check(one, two)

    def test_drawn_pairs_of_many(self):
        source = chance(263)
        for count in range(5, 13):
            for _ in range(15):
                self.check(any_strands(source, count), any_strands(source, count))

    def test_least_sums_of_the_tables_are_the_table_of_the_joined(self):
        source = chance(275)
        for count in range(1, 8):
            for _ in range(20):
                one, two = any_strands(source, count), any_strands(source, count)
                self.assertIs(is_straight(counts_table(one)), True)
                self.same(product(counts_table(one), counts_table(two)), counts_table(joined(one, two)))
                self.same(strands_of(product(counts_table(one), counts_table(two))), joined(one, two))

    def test_straight_strands_change_nothing(self):
        for strands in drawn_strands(264):
            straight = tuple(range(len(strands)))
            self.same(joined(strands, straight), strands)
            self.same(joined(straight, strands), strands)

    def test_no_brackets(self):
        source = chance(265)
        for count in range(1, 13):
            for _ in range(10):
                one, two, three = [any_strands(source, count) for _ in range(3)]
                self.same(joined(joined(one, two), three), joined(one, joined(two, three)))

    def test_both_are_below_what_comes(self):
        source = chance(266)
        for count in range(1, 13):
            for _ in range(5):
                one, two = any_strands(source, count), any_strands(source, count)
                self.assertIs(is_below(one, joined(one, two)), True)
                self.assertIs(is_below(two, joined(one, two)), True)


class TimesTest(SameTest):
    def test_one_after_the_other(self):
        for strands in drawn_strands(267):
            wanted = strands
            self.same(joined_times(strands, 1), strands)
            for times in range(2, 15):
                wanted = joined(wanted, strands)
                self.same(joined_times(strands, times), wanted)

    def test_of_very_many_nothing_more_comes(self):
        with soon():
            for strands in drawn_strands(268):
                found = joined_times(strands, 10 ** 18)
                self.same(found, joined_times(strands, 100))
                self.same(joined(found, strands), found)
                self.same(joined_times(strands, 10 ** 18 - 1), found)

    def test_slow_ones(self):
        """One strand that goes over all others takes many times to turn all about."""
        for count in range(2, 13):
            over = tuple(range(1, count)) + (0,)
            about = tuple(reversed(range(count)))
            if count > 2:
                self.assertNotEqual(joined_times(over, count - 2), about)
            self.same(joined_times(over, count - 1), about)
            self.same(joined_times(over, 10 ** 18), about)

    def test_errors(self):
        for times in (0, -1, 10 ** 18 + 1, FAR, -FAR):
            self.assertRaises(BadNumber, joined_times, (1, 0), times)
        with soon():
            for thing in wrong_integers_within(1, 10 ** 18):
                with self.assertRaises(BadNumber):
                    joined_times((2, 0, 1), thing)

    def test_idle(self):
        self.assertIs(is_idle((0,)), True)
        self.assertIs(is_idle((1, 0, 2)), True)
        self.assertIs(is_idle((2, 0, 1)), False)
        self.assertIs(is_idle((2, 1, 0, 4, 3)), True)
        for count in range(1, 7):
            turned = set()
            for cuts in itertools.product((False, True), repeat=count - 1):
                blocks, begin = [], 0
                for end in [at + 1 for at in range(count - 1) if cuts[at]] + [count]:
                    blocks += reversed(range(begin, end))
                    begin = end
                turned.add(tuple(blocks))
            for strands in rows_of(count):
                self.assertIs(is_idle(strands), strands in turned)
                self.assertIs(is_idle(strands), least_sums(counts(strands), counts(strands)) == counts(strands))
        self.assertIs(is_idle(tuple(reversed(range(12)))), True)
        self.assertIs(is_idle(tuple(range(12))), True)


def wrong_words(count):
    wrong = odd_objects() + deep_objects() + [0, FAR, [], [0], (-1,), (count - 1,), (count,), (FAR,), (0,) * 41]
    wrong += [(0, count - 1), (0,) * 39 + (count - 1,), ((0,),), (True,), (False,), (None,), ("0",), (0, True), {0: 0}]
    wrong += [(0,) * 40 + (FAR,), (0,) * 100]
    return wrong


class WordsTest(SameTest):
    def test_the_document(self):
        self.same(combed(3, (0, 1)), (2, 0, 1))
        self.same(combed(3, (0, 1, 0, 1)), (2, 1, 0))

    def test_no_word_and_one_strand(self):
        for count in range(1, 13):
            self.same(combed(count, ()), tuple(range(count)))
            self.same(word_of(tuple(range(count))), ())
            self.assertIs(same_combed(count, (), ()), True)
        for index in (0, 1, -1):
            self.assertRaises(BadWord, combed, 1, (index,))
            self.assertRaises(BadWord, same_combed, 1, (index,), ())
            self.assertRaises(BadWord, same_combed, 1, (), (index,))
        self.same(word_of((0,)), ())
        self.same(count_words((0,)), 1)

    def test_drawn(self):
        source = chance(269)
        for count in range(2, 13):
            for length in (1, 2, 5, 20, 39, 40):
                words = [tuple(source.choices(range(count - 1), k=length)) for _ in range(3)]
                for word in words:
                    self.same(combed(count, word), drawn(count, word))
                for one, two in itertools.product(words, repeat=2):
                    self.assertIs(same_combed(count, one, two), drawn(count, one) == drawn(count, two))

    def test_words_alike_and_unlike(self):
        self.assertIs(same_combed(3, (0, 1, 0), (1, 0, 1)), True)
        self.assertIs(same_combed(3, (0, 1), (1, 0)), False)
        self.assertIs(same_combed(4, (0, 2), (2, 0)), True)
        self.assertIs(same_combed(2, (0,) * 40, (0,)), True)
        self.assertIs(same_combed(2, (0,), ()), False)
        self.assertIs(same_combed(12, (10,), (10, 10)), True)

    def test_the_first_of_the_shortest_words_by_trying_all(self):
        for count, most in ((2, 2), (3, 4), (4, 6)):
            found = words_by_trying(count, most)
            self.assertEqual(sorted(found), rows_of(count))
            for strands, words in found.items():
                self.same(word_of(strands), words[0])
                self.same(count_words(strands), len(words))
        for strands, words in words_by_trying(5, 6).items():
            if len(words[0]) == len(crossing_pairs(strands)):
                self.same(word_of(strands), words[0])
                self.same(count_words(strands), len(words))

    def test_words_make_the_strands_with_as_many_indexes_as_pairs_cross(self):
        for strands in drawn_strands(270, 6):
            word = word_of(strands)
            self.assertEqual(len(word), len(crossing_pairs(strands)))
            self.same(drawn(len(strands), word), strands)
            if len(word) <= 40:
                self.same(combed(len(strands), word), strands)

    def test_longer_words_than_forty(self):
        for count in range(10, 13):
            word = word_of(tuple(reversed(range(count))))
            self.assertEqual(len(word), count * (count - 1) // 2)
            self.same(word, tuple(at for top in range(count) for at in reversed(range(top))))
            self.assertRaises(BadWord, combed, count, word)

    def test_how_many_words(self):
        self.same(count_words((2, 1, 0)), 2)
        self.same(count_words((3, 2, 1, 0)), 16)
        self.same(count_words((4, 3, 2, 1, 0)), 768)
        self.same(count_words((1, 0, 3, 2)), 2)
        with soon():
            # As many as there are standard fillings of the staircase of 7, 6, .. squares.
            wanted = 304888344611713860501504000000
            for short in range(1, 8):
                wanted //= (2 * short - 1) ** (8 - short)
            self.same(count_words((7, 6, 5, 4, 3, 2, 1, 0)), wanted)
        self.same(count_words(tuple(range(8))), 1)

    def test_how_many_words_by_the_words_with_one_index_less(self):
        for count in range(2, 8):
            strands = any_strands(chance(count), count)
            less = [at for at in range(count - 1) if strands[at] > strands[at + 1]]
            rests = [strands[:at] + (strands[at + 1], strands[at]) + strands[at + 2:] for at in less]
            self.same(count_words(strands), sum(count_words(rest) for rest in rests) if less else 1)

    def test_too_many(self):
        for count in range(9, 13):
            self.assertRaises(TooMany, count_words, tuple(range(count)))
            self.assertRaises(TooMany, count_words, tuple(reversed(range(count))))
            self.assertRaises(BadStrands, count_words, (0,) * count)

    def test_errors(self):
        with soon():
            for count in (1, 2, 3, 12):
                for thing in wrong_words(count):
                    with self.assertRaises(BadWord):
                        combed(count, thing)
                    with self.assertRaises(BadWord):
                        same_combed(count, thing, None)
                    with self.assertRaises(BadWord):
                        same_combed(count, (), thing)
            for thing in wrong_integers_within(1, 12):
                with self.assertRaises(BadNumber):
                    combed(thing, None)
                with self.assertRaises(BadNumber):
                    same_combed(thing, None, None)
        self.assertRaises(BadNumber, combed, 0, (0,))
        self.assertRaises(BadNumber, combed, 13, (0,))
        self.same(combed(3, (0, 1) * 20), (2, 1, 0))


def below_by_counts(one, two):
    return all(x <= y for row, beside in zip(counts(one), counts(two)) for x, y in zip(row, beside))


class BelowTest(SameTest):
    def test_all_pairs_of_few_strands(self):
        for count in range(1, 5):
            for one, two in itertools.product(rows_of(count), repeat=2):
                self.assertIs(is_below(one, two), below_by_counts(one, two))
        source = chance(271)
        for count in range(5, 13):
            for _ in range(20):
                one, two = any_strands(source, count), any_strands(source, count)
                self.assertIs(is_below(one, two), below_by_counts(one, two))
                self.assertIs(is_below(tuple(range(count)), one), True)
                self.assertIs(is_below(one, tuple(reversed(range(count)))), True)
                self.assertIs(is_below(one, one), True)

    def test_covered_against_trying(self):
        self.same(covered((0,)), [])
        self.same(covered((0, 1, 2)), [])
        self.same(covered((1, 0)), [(0, 1)])
        self.same(covered((2, 1, 0)), [(1, 2, 0), (2, 0, 1)])
        for count in range(1, 6):
            for strands in rows_of(count):
                fewer = len(crossing_pairs(strands)) - 1
                wanted = [one for one in rows_of(count) if len(crossing_pairs(one)) == fewer]
                self.same(covered(strands), sorted(one for one in wanted if below_by_counts(one, strands)))

    def test_covered_of_many_strands(self):
        for strands in drawn_strands(272):
            found = covered(strands)
            self.assertEqual(found, sorted(set(found)))
            for one in found:
                self.assertEqual(len(crossing_pairs(one)), len(crossing_pairs(strands)) - 1)
                self.assertTrue(below_by_counts(one, strands))
            found.append(None)
            self.assertNotIn(None, covered(strands))


class RestTest(SameTest):
    def test_the_document(self):
        self.same(rest_of((1, 0, 2), (2, 0, 1)), (0, 2, 1))
        self.assertIs(rest_of((2, 0, 1), (1, 0, 2)), None)
        self.assertIs(rest_of((0, 2, 1), (2, 0, 1)), None)

    def test_by_trying_all(self):
        for count in range(1, 5):
            for part, whole in itertools.product(rows_of(count), repeat=2):
                rests = [rest for rest in rows_of(count) if drawn(
                    count, crossings_from_above(part), crossings_from_above(rest)) == whole]
                wanted = min(rests, key=lambda rest: len(crossing_pairs(rest)), default=None)
                self.same(rest_of(part, whole), wanted)
                fewest = [rest for rest in rests if len(crossing_pairs(rest)) == len(crossing_pairs(wanted))]
                self.assertEqual(len(fewest), bool(rests))

    def test_of_five_and_six_strands(self):
        source = chance(273)
        for count in (5, 6):
            for _ in range(15):
                part, other = any_strands(source, count), any_strands(source, count)
                whole = joined(part, other)
                rests = [rest for rest in rows_of(count) if joined(part, rest) == whole]
                self.same(rest_of(part, whole), min(rests, key=lambda rest: len(crossing_pairs(rest))))
                if all(joined(part, rest) != other for rest in rows_of(count)):
                    self.assertIs(rest_of(part, other), None)

    def test_of_strands_with_themselves(self):
        for strands in drawn_strands(274, 5, 6):
            straight = tuple(range(len(strands)))
            self.same(rest_of(strands, strands), straight)
            self.same(rest_of(straight, strands), strands)

    def test_too_many(self):
        for count in range(7, 13):
            self.assertRaises(TooMany, rest_of, tuple(range(count)), tuple(range(count)))
            self.assertRaises(BadSizes, rest_of, tuple(range(count)), tuple(range(count - 1)))
            self.assertRaises(BadStrands, rest_of, tuple(range(count)), (0,) * count)
            self.assertRaises(BadSizes, rest_of, (0,), tuple(range(count)))


if __name__ == "__main__":
    unittest.main()
