"""Point 7: tables as texts, and texts as tables."""

import itertools
import re
import unittest

from straightleast.errors import BadRows, BadTable
from straightleast.texts import read_table, write_table

from tests.samples import (
    GREAT, Q, SIZES, any_table, chance, deep_objects, kinds, odd_objects, sample_tables, soon, wrong_tables,
)

WRITTEN = re.compile("0|-?[1-9][0-9]{0,29}")


def wrong_place(text):
    """The row and the word that BadRows has by the words of point 7, None for a table's text."""
    lines = text.split("\n")
    first = len(lines[0].split(" "))
    for row, line in enumerate(lines):
        if row == 8:
            return (8, 0)
        words = line.split(" ")
        for word, told in enumerate(words):
            if not WRITTEN.fullmatch(told) or word == 8 or word >= first:
                return (row, word)
        if len(words) < first:
            return (row, len(words))
    return None


class WriteTest(unittest.TestCase):
    def test_small(self):
        self.assertEqual(write_table(((0,),)), "0")
        self.assertEqual(write_table(((-1,),)), "-1")
        self.assertEqual(write_table(((1, -20, 300),)), "1 -20 300")
        self.assertEqual(write_table(((1,), (-20,), (300,))), "1\n-20\n300")
        self.assertEqual(write_table(((1, 2), (3, 4))), "1 2\n3 4")
        self.assertEqual(write_table(Q), "0 1 4 9\n1 0 1 4\n4 1 0 1\n9 4 1 0")

    def test_great_integers(self):
        self.assertEqual(write_table(((GREAT, -GREAT),)), "9" * 30 + " -" + "9" * 30)
        self.assertEqual(write_table(((10 ** 29, -10 ** 29),)), "1" + "0" * 29 + " -1" + "0" * 29)

    def test_every_size(self):
        source = chance(20)
        for height, width in SIZES:
            table = any_table(source, height, width, 10 ** 12)
            lines = []
            for row in table:
                lines.append(" ".join("%d" % entry for entry in row))
            self.assertEqual(write_table(table), "\n".join(lines))
            self.assertIs(type(write_table(table)), str)

    def test_what_is_no_table(self):
        with soon():
            for thing in wrong_tables():
                with self.assertRaises(BadTable):
                    write_table(thing)


class ReadTest(unittest.TestCase):
    def reads(self, text, table):
        self.assertEqual(kinds(read_table(text)), kinds(table))

    def wrong(self, text, row, word):
        with self.assertRaises(BadRows) as caught:
            read_table(text)
        error = caught.exception
        self.assertEqual(kinds((error.row, error.word)), kinds((row, word)))

    def test_small(self):
        self.reads("0", ((0,),))
        self.reads("-7", ((-7,),))
        self.reads("10 20", ((10, 20),))
        self.reads("1\n2", ((1,), (2,)))
        self.reads("1 -2 3\n40 50 -60", ((1, -2, 3), (40, 50, -60)))
        self.reads("0 1 4 9\n1 0 1 4\n4 1 0 1\n9 4 1 0", Q)

    def test_what_is_written_is_read(self):
        for table in sample_tables(21):
            self.reads(write_table(table), table)

    def test_what_is_read_is_written(self):
        for text in ("0", "-1 0\n5 99999999999999999999", "1\n2\n3\n4\n5\n6\n7\n8"):
            self.assertEqual(write_table(read_table(text)), text)

    def test_words_that_are_no_integers(self):
        for word in (
            "", "-", "--1", "+1", "+", "-0", "00", "01", "-01", "007", "1-", "1-2", "-1-", "a", "1a", "a1",
            "1.0", "1.", ".1", "1e3", "1_000", "0x1", "0b1", "1,2", "(1)", "'1'", "1\t", "\t1", "\t", "True",
            "None", "-+1", "+-1", "~", "_1", "1_", "0-", "-00", "1l", "/", ":", "1/", "2:",
        ):
            self.wrong(word, 0, 0)
            self.wrong("1 " + word, 0, 1)
            self.wrong(word + " 1", 0, 0)
            self.wrong("1 " + word + " 1", 0, 1)
            self.wrong("1 2\n" + word + " 2", 1, 0)
            self.wrong("1 2\n1 " + word, 1, 1)
            self.wrong("1 2\n3 4\n5 " + word, 2, 1)

    def test_empty_words_count(self):
        self.wrong("", 0, 0)
        self.wrong(" ", 0, 0)
        self.wrong(" 1", 0, 0)
        self.wrong("1 ", 0, 1)
        self.wrong("1  2", 0, 1)
        self.wrong("1 2 ", 0, 2)
        self.wrong("1 2\n 3 4", 1, 0)
        self.wrong("1 2\n3  4", 1, 1)
        self.wrong("1 2\n3 4 ", 1, 2)

    def test_empty_rows_count(self):
        self.wrong("\n", 0, 0)
        self.wrong("\n1", 0, 0)
        self.wrong("1\n\n2", 1, 0)
        self.wrong("1 2\n\n3 4", 1, 0)
        self.wrong("1\n2\n\n", 2, 0)

    def test_a_line_feed_at_the_end(self):
        self.wrong("1\n", 1, 0)
        self.wrong("1 2 3\n", 1, 0)
        self.wrong("1\n2\n", 2, 0)
        self.wrong("\n".join("12345678") + "\n", 8, 0)

    def test_thirty_and_thirty_one_digits(self):
        for digits in ("9" * 30, "1" + "0" * 29, "12" * 15):
            for sign, times in (("", 1), ("-", -1)):
                self.reads(sign + digits, ((times * int(digits),),))
                self.reads("0 " + sign + digits, ((0, times * int(digits)),))
                for more in "019":
                    self.wrong(sign + digits + more, 0, 0)
                    self.wrong("0 " + sign + digits + more, 0, 1)
                    self.wrong("0\n" + sign + digits + more, 1, 0)
        for length in range(1, 31):
            self.reads("-" + "7" * length, ((-int("7" * length),),))

    def test_endless_words_and_rows(self):
        with soon():
            for length in (31, 32, 100, 4299, 4300, 4301, 10 ** 6):
                self.wrong("9" * length, 0, 0)
                self.wrong("-" + "1" * length, 0, 0)
                self.wrong("0" * length, 0, 0)
                self.wrong("-" * length, 0, 0)
                self.wrong("\n" * length, 0, 0)
                self.wrong(" " * length, 0, 0)
                self.wrong("1" + " 1" * length, 0, 8)
                self.wrong("1" + "\n1" * length, 8, 0)

    def test_a_ninth_word(self):
        eight = "1 2 3 4 5 6 7 8"
        self.reads(eight, (tuple(range(1, 9)),))
        self.wrong(eight + " 9", 0, 8)
        self.wrong(eight + " 9 10", 0, 8)
        self.wrong(eight + " x", 0, 8)
        self.wrong(eight + " ", 0, 8)
        self.wrong(eight + " 9\nx", 0, 8)
        self.wrong(eight + "\n" + eight + " 9", 1, 8)
        self.wrong(eight + "\n" + eight + " ", 1, 8)
        self.wrong("1 2 3 4 5 6 7 x 9", 0, 7)

    def test_a_ninth_row(self):
        eight = "1 2\n" * 7 + "1 2"
        self.reads(eight, ((1, 2),) * 8)
        for more in ("1 2", "1", "1 2 3", "", "x", " 1", "1 x", "\n", "1 2\n1 2"):
            self.wrong(eight + "\n" + more, 8, 0)
        self.wrong("1 2\n" * 7 + "1 x\n1 2", 7, 1)
        self.wrong("1 2\n" * 7 + "1\n1 2", 7, 1)
        self.wrong("1 2\n" * 7 + "1 2 3\n1 2", 7, 2)
        self.wrong("1 2\n" * 8 + "1 2\n" * 8, 8, 0)

    def test_a_row_shorter_than_the_first(self):
        self.wrong("1 2\n3", 1, 1)
        self.wrong("1 2 3\n4", 1, 1)
        self.wrong("1 2 3\n4 5", 1, 2)
        self.wrong("1 2 3\n4 5 6\n7 8", 2, 2)
        self.wrong("1 2 3 4 5 6 7 8\n1 2 3 4 5 6 7", 1, 7)

    def test_a_row_longer_than_the_first(self):
        self.wrong("1\n2 3", 1, 1)
        self.wrong("1 2\n3 4 5", 1, 2)
        self.wrong("1 2\n3 4 5 6 7", 1, 2)
        self.wrong("1 2\n3 4\n5 6 7", 2, 2)
        self.wrong("1 2 3 4 5 6 7\n1 2 3 4 5 6 7 8", 1, 7)

    def test_of_several_the_first(self):
        self.wrong("x y", 0, 0)
        self.wrong("1 x y", 0, 1)
        self.wrong("1 x\ny 1", 0, 1)
        self.wrong("1 2\n3\nx", 1, 1)
        self.wrong("1 2\n3 4 5\nx", 1, 2)
        self.wrong("1 2\n3 4 x", 1, 2)
        self.wrong("1 2\n3 x 5", 1, 1)
        self.wrong("1 2 3\n4 x", 1, 1)
        self.wrong("1 2 3\nx", 1, 0)
        self.wrong("1 2 3\n4 5\n6 7 8 9", 1, 2)
        self.wrong("1\n2 x\n3", 1, 1)

    def test_all_short_texts(self):
        read = 0
        for length in range(8):
            for signs in itertools.product("01- \n", repeat=length):
                read += self.answers_as_the_point_says("".join(signs))
        self.assertGreater(read, 1000)

    def test_texts_changed_at_one_place(self):
        source = chance(22)
        for height, width in SIZES:
            for _ in range(12):
                text = write_table(any_table(source, height, width, source.choice((1, 9, 200))))
                at = source.randrange(len(text) + 1)
                self.answers_as_the_point_says(text[:at] + source.choice("0123-+ \n\tx") + text[at:])
                self.answers_as_the_point_says(text[:at] + text[at + 1:])

    def answers_as_the_point_says(self, text):
        place = wrong_place(text)
        if place is not None:
            self.wrong(text, place[0], place[1])
            return False
        self.reads(text, tuple(tuple(int(word) for word in line.split(" ")) for line in text.split("\n")))
        self.assertEqual(write_table(read_table(text)), text)
        return True

    def test_what_is_no_str(self):
        others = [thing for thing in odd_objects() + deep_objects() if not isinstance(thing, str)]
        others += [0, 1, -1, GREAT, (), Q, ((0,),), ["0"], ("0",), {"0": "0"}, b"0 1\n1 0"]
        with soon():
            for thing in others:
                self.wrong(thing, 0, 0)


if __name__ == "__main__":
    unittest.main()
