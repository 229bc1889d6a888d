"""Points 30 to 33: rows of letters compared as a whole, by stretches, and by strands."""

import itertools
import unittest

from straightleast.errors import BadIndex, BadNumber, BadSizes, BadStrands, BadText
from straightleast.letters import (
    below_letters, edits, letter_strands, shared, shared_text, shared_window, window_table, windows,
)
from straightleast.strands import joined

from tests.samples import FAR, SameTest, chance, lists_in, soon, wrong_integers_within
from tests.strand_calls import text as text_faults
from tests.test_strands import any_strands, wrong_strands

PAIRS = [shared, shared_text, edits, letter_strands, window_table]


def rows_left(text):
    """All that comes of the text by leaving letters out."""
    return {
        "".join(some) for count in range(len(text) + 1) for some in itertools.combinations(text, count)
    }


def longest(text, other):
    return max(len(row) for row in rows_left(text) & rows_left(other))


def texts_of(letters, most):
    return ["".join(text) for count in range(most + 1) for text in itertools.product(letters, repeat=count)]


def drawn_texts(seed, many, letters="abc"):
    source = chance(seed)
    return ["".join(source.choices(letters, k=source.randint(0, 6))) for _ in range(many)]


def pairs_of_texts(seed, many=60):
    """Two texts each, among them such as have no letters and such as have six."""
    found = [("", ""), ("", "abcabc"), ("abcdef", ""), ("abcdef", "abcdef"), ("aaaaaa", "aaaaaa"), ("abcdef", "fedcba")]
    found += [("z", "z"), ("az", "za"), ("a", "b")]
    for letters in ("ab", "abc", "abcxyz"):
        found += zip(drawn_texts(f"{seed} {letters}", many, letters), drawn_texts(seed, many, letters))
    return found


def met_one_by_one(text, other):
    """The strands by the words of the document: which two have crossed is noted."""
    many, count = len(text), len(other)
    crossed = set()
    comes_down = [many + at for at in range(count)]
    behind = {}
    for row in range(many):
        along = many - 1 - row
        for column in range(count):
            down = comes_down[column]
            pair = frozenset((along, down))
            if text[row] != other[column] and pair not in crossed:
                crossed.add(pair)
            else:
                along, comes_down[column] = down, along
        behind[along] = count + many - 1 - row
    ends = {strand: column for column, strand in enumerate(comes_down)} | behind
    return tuple(ends[strand] for strand in range(many + count))


def wrong_texts():
    return [wrong for _, wrong in text_faults("ab")[1]] + [
        "abcdefg", "aaaaaaa", "A", "aB", "a b", " a", "a ", " ", "ab\n", "a\tb", "a1", "a-b", "~", "'", b"ab", ["a"],
    ]


class SharedTest(SameTest):
    def test_small(self):
        self.same(shared("abc", "bac"), 2)
        self.same(shared_text("abc", "bac"), "ac")
        self.same(edits("abc", "bac"), 2)
        self.same(shared_text("ba", "ab"), "a")
        self.same(shared_text("zyx", "xyz"), "x")

    def test_no_letters(self):
        for text in ("", "a", "abcdef"):
            for one, two in ((text, ""), ("", text)):
                self.same(shared(one, two), 0)
                self.same(shared_text(one, two), "")
                self.same(edits(one, two), len(text))

    def test_all_short_texts(self):
        for text, other in itertools.product(texts_of("ab", 4), repeat=2):
            self.check(text, other)

    def test_longer_texts(self):
        for text, other in pairs_of_texts(300):
            self.check(text, other)

    def check(self, text, other):
        rows = rows_left(text) & rows_left(other)
        most = max(map(len, rows))
        self.same(shared(text, other), most)
        self.same(shared_text(text, other), min(row for row in rows if len(row) == most))
        self.same(edits(text, other), len(text) + len(other) - 2 * most)

    def test_edits_by_steps(self):
        """As few steps as lead from the one to the other, each leaving out or putting in a letter."""
        for text, other in itertools.product(texts_of("ab", 3), repeat=2):
            steps, reached = 0, {text}
            while other not in reached:
                steps += 1
                less = {one[:at] + one[at + 1:] for one in reached for at in range(len(one))}
                more = {one[:at] + sign + one[at:] for one in reached for at in range(len(one) + 1) for sign in "ab"}
                reached = reached | less | {one for one in more if len(one) <= 4}
            self.same(edits(text, other), steps)

    def test_six_letters_and_seven(self):
        for call in PAIRS:
            call("abcdef", "zzzzzz")
            self.assertRaises(BadText, call, "abcdefg", "a")
            self.assertRaises(BadText, call, "a", "abcdefg")

    def test_errors(self):
        with soon():
            for thing in wrong_texts():
                for call in PAIRS:
                    for told in ((thing, "a"), ("a", thing), (thing, thing), (thing, None), ("", thing)):
                        with self.assertRaises(BadText):
                            call(*told)
                for told in ((thing, None, None, None), ("a", thing, None, None)):
                    with self.assertRaises(BadText):
                        shared_window(*told)
                    with self.assertRaises(BadText):
                        windows(*told[:3])


class StrandsOfLettersTest(SameTest):
    def test_the_document(self):
        self.same(letter_strands("ab", "b"), (0, 2, 1))
        self.same(letter_strands("ab", "ba"), (0, 2, 1, 3))

    def test_one_letter_each(self):
        self.same(letter_strands("a", "a"), (0, 1))
        self.same(letter_strands("a", "b"), (1, 0))

    def test_one_text_without_letters(self):
        for count in range(1, 7):
            self.same(letter_strands("abcdef"[:count], ""), tuple(range(count)))
            self.same(letter_strands("", "abcdef"[:count]), tuple(range(count)))

    def test_both_without_letters(self):
        self.assertRaises(BadText, letter_strands, "", "")
        self.assertRaises(BadText, letter_strands, "", None)
        for call in (shared, edits):
            self.same(call("", ""), 0)
        self.same(shared_text("", ""), "")
        self.same(window_table("", ""), [[0]])
        self.same(shared_window("", "", 0, 0), 0)

    def test_unlike_texts_cross_all(self):
        self.same(letter_strands("abc", "xyz"), (3, 4, 5, 0, 1, 2))

    def test_letter_by_letter(self):
        for text, other in pairs_of_texts(301) + list(itertools.product(texts_of("ab", 3), repeat=2)):
            if text + other:
                self.same(letter_strands(text, other), met_one_by_one(text, other))

    def test_for_each_stretch_the_strands_tell_the_greatest_shared_length(self):
        for text, other in pairs_of_texts(302):
            if text + other:
                found = letter_strands(text, other)
                self.assertEqual(sorted(found), list(range(len(text) + len(other))))
                for start in range(len(other) + 1):
                    for end in range(start, len(other) + 1):
                        less = sum(1 for at in range(len(text) + start, len(found)) if found[at] < end)
                        self.assertEqual(end - start - less, longest(text, other[start:end]))


class WindowsTest(SameTest):
    def test_the_document(self):
        self.same(window_table("ab", "ba"), [[0, 1, 1], [0, 1], [0]])

    def test_all_stretches(self):
        for text, other in pairs_of_texts(303):
            wanted = [
                [longest(text, other[start:end]) for end in range(start, len(other) + 1)]
                for start in range(len(other) + 1)
            ]
            self.same(window_table(text, other), wanted)
            for start, row in enumerate(wanted):
                for end, length in enumerate(row, start):
                    self.same(shared_window(text, other, start, end), length)
            for count in range(1, len(other) + 1):
                found = windows(text, other, count)
                self.same(found, [wanted[start][count] for start in range(len(other) - count + 1)])

    def test_windows_of_one_and_of_all_letters(self):
        self.same(windows("ab", "abcab", 1), [1, 1, 0, 1, 1])
        self.same(windows("ab", "abcab", 5), [2])
        self.same(windows("", "abc", 2), [0, 0])

    def test_ends(self):
        self.same(shared_window("abc", "abcdef", 0, 6), 3)
        self.same(shared_window("abc", "abcdef", 6, 6), 0)
        self.same(shared_window("abc", "abcdef", 0, 0), 0)
        for start, end in ((-1, 3), (7, 7), (0, 7), (3, 2), (6, 5), (1, 0), (FAR, FAR), (0, FAR), (-FAR, 0)):
            self.assertRaises(BadIndex, shared_window, "abc", "abcdef", start, end)
        for start, end in ((0, 1), (1, 1), (-1, 0)):
            self.assertRaises(BadIndex, shared_window, "abc", "", start, end)

    def test_errors(self):
        with soon():
            for thing in wrong_integers_within(0, 3):
                with self.assertRaises(BadIndex):
                    shared_window("ab", "abc", thing, None)
            for thing in wrong_integers_within(2, 3):
                with self.assertRaises(BadIndex):
                    shared_window("ab", "abc", 2, thing)
            for other in ("", "a", "abc", "abcdef"):
                for thing in wrong_integers_within(1, len(other)) + [0, len(other) + 1]:
                    with self.assertRaises(BadNumber):
                        windows("ab", other, thing)
        for count in (0, 1, 2, -1):
            self.assertRaises(BadNumber, windows, "abc", "", count)
            self.assertRaises(BadNumber, windows, "", "", count)

    def test_lists_are_new_also_within(self):
        found = window_table("ab", "ba")
        for one in lists_in(found):
            one.append(7)
        self.same(window_table("ab", "ba"), [[0, 1, 1], [0, 1], [0]])
        found = windows("ab", "ba", 1)
        found.clear()
        self.same(windows("ab", "ba", 1), [1, 1])
        made = lists_in([window_table("", "aaaaaa"), window_table("", "aaaaaa")])
        self.assertEqual(len({id(one) for one in made}), len(made))


class BelowLettersTest(SameTest):
    def test_texts_behind_one_another(self):
        source = chance(304)
        checked = 0
        for _ in range(600):
            first, second, third = [
                "".join(source.choices("abc", k=source.randint(0, 6))) for _ in range(3)
            ]
            if len(first + second) > 6 or not first + third or not second + third:
                continue
            found = below_letters(
                letter_strands(first, third), letter_strands(second, third), len(first), len(second), len(third),
            )
            self.same(found, letter_strands(first + second, third))
            checked += 1
        self.assertGreater(checked, 100)

    def test_more_letters_together_than_a_text_may_have(self):
        source = chance(305)
        for first, second, letters in ((6, 6, 0), (6, 5, 1), (4, 4, 4), (3, 5, 4), (1, 6, 5), (6, 0, 6)):
            one, two, three = ["".join(source.choices("ab", k=count)) for count in (first, second, letters)]
            found = below_letters(
                met_one_by_one(one, three), met_one_by_one(two, three), first, second, letters,
            )
            self.same(found, met_one_by_one(one + two, three))

    def test_any_strands_of_these_sizes(self):
        source = chance(306)
        for first, second, letters in itertools.product(range(7), repeat=3):
            if first + second + letters <= 12 and first + letters and second + letters:
                one, two = any_strands(source, first + letters), any_strands(source, second + letters)
                ahead = tuple(range(second)) + tuple(end + second for end in one)
                behind = two + tuple(range(second + letters, first + second + letters))
                self.same(below_letters(one, two, first, second, letters), joined(ahead, behind))

    def test_sizes_that_do_not_fit(self):
        strands = [tuple(range(count)) for count in range(13)]
        for one, two in itertools.product((1, 2, 3, 6, 7, 12), repeat=2):
            for told in itertools.product((0, 1, 3, 6), repeat=3):
                first, second, letters = told
                if (one, two) == (first + letters, second + letters) and sum(told) <= 12:
                    self.same(below_letters(strands[one], strands[two], *told), strands[sum(told)])
                else:
                    self.assertRaises(BadSizes, below_letters, strands[one], strands[two], *told)
        # Each fits, but all three have thirteen letters together, or eighteen.
        self.assertRaises(BadSizes, below_letters, strands[9], strands[10], 3, 4, 6)
        self.assertRaises(BadSizes, below_letters, strands[12], strands[12], 6, 6, 6)
        self.assertRaises(BadSizes, below_letters, strands[7], strands[7], 6, 6, 1)

    def test_errors(self):
        with soon():
            for thing in wrong_strands():
                with self.assertRaises(BadStrands):
                    below_letters(thing, None, None, None, None)
                with self.assertRaises(BadStrands):
                    below_letters((0,), thing, None, None, None)
            for thing in wrong_integers_within(0, 6):
                for at in range(3):
                    told = [0, 0, 0]
                    told[at] = thing
                    with self.assertRaises(BadNumber):
                        below_letters((0,), (1, 0), *told)
        # A wrong number comes ahead of sizes that do not fit.
        self.assertRaises(BadNumber, below_letters, (0,), (0,), 6, 6, 7)
        self.assertRaises(BadNumber, below_letters, (0,), (0,), -1, 2, 2)
        self.assertRaises(BadSizes, below_letters, (0,), (0,), 0, 0, 0)


if __name__ == "__main__":
    unittest.main()
