"""Point 35: the desk, its rows and their answers."""

import itertools
import unittest

from straightleast.climbs import best_climb
from straightleast.desk import Desk
from straightleast.errors import (
    BadCommand, BadIndex, BadNumber, BadText, BadWord, Full, LeastError, NothingToUndo, NotStraight,
)
from straightleast.letters import shared
from straightleast.session import Session
from straightleast.strands import combed
from straightleast.tours import best_tour

from tests.samples import Q, SameTest, chance, deep_objects, odd_objects, soon

# Rows that are deeds, with the method of a session that each stands for.
DEEDS = {
    "lift row 1 7": ("lift_row", (1, 7)), "lift row 0 -3": ("lift_row", (0, -3)),
    "lift column 2 40": ("lift_column", (2, 40)), "lift column 3 -1": ("lift_column", (3, -1)),
    "set 0 3 50": ("change", (0, 3, 50)), "set 2 2 0": ("change", (2, 2, 0)), "turn": ("turn", ()),
}

# One row of each form, with which of its words are N, M or any word.
FORMS = {
    "row 1": "lN", "firsts": "l", "least": "l", "lift row 1 2": "llNM", "lift column 1 2": "llNM",
    "set 0 0 -1": "lNNM", "turn": "l", "undo": "l", "pairs 2": "lN", "room 0 0": "lNN", "tour": "l", "climb 2": "lN",
    "comb 3 0 1": "lNNN", "comb 3 0": "lNN", "shared ab b": "lWW",
}

# Words that are no N; of these the first four are an M.
NO_NUMBERS = [
    "-1", "-7", "-10", "-" + "9" * 20, "-0", "-00", "-01", "00", "01", "007", "+1", "+0", "--1", "1-", "1.0", "1e3",
    "0x1", "1_0", "x", "", "1" * 21, "-" + "1" * 21, "0" * 20, "1\n", "\t1", "1\t", "\n", "\t", "N", "M", "any", "row",
    "firsts", "True", "None", "-", "- 1", "1 ", " 1", "1,", "'1'",
]


def texts(*parts):
    return " ".join(map(str, parts))


class DeskCase(SameTest):
    def raises(self, error, desk, row):
        """The error of this class itself, behind which nothing has changed."""
        before = desk.session()
        with self.assertRaises(LeastError) as caught:
            desk.say(row)
        self.assertIs(type(caught.exception), error)
        self.assertEqual(history(desk.session()), history(before))


def history(session):
    """Its tables back to the beginning."""
    found = [session.table()]
    try:
        while True:
            session.undo()
            found.append(session.table())
    except NothingToUndo:
        return found


class AnswersTest(DeskCase):
    def test_with_the_table_of_the_examples(self):
        for row, wanted in (
            ("row 0", "0 1 4 9"), ("row 3", "9 4 1 0"), ("firsts", "0 1 2 3"), ("least", "0 0 0"), ("pairs 0", "0"),
            ("pairs 2", "0"), ("pairs 4", "0"), ("room 0 0", "any 2"), ("room 0 1", "2 2"), ("room 3 0", "2 any"),
            ("tour", "10 0 1 3 2"), ("climb 1", "9 0 3"), ("climb 2", "5 0 1 3"), ("climb 3", "3 0 1 2 3"),
            ("comb 3 0 1", "2 0 1"), ("comb 3 0 1 0 1", "2 1 0"), ("comb 2 0", "1 0"), ("shared ab ba", "1"),
            ("shared abc bac", "2"), ("shared a b", "0"),
        ):
            desk = Desk()
            self.same(desk.say(row), wanted)
            self.same(desk.say(row=row), wanted)
            self.same(desk.session().table(), Q)

    def test_deeds(self):
        for row, deed in (
            ("lift row 1 7", lambda held: held.lift_row(1, 7)), ("lift row 3 -20", lambda held: held.lift_row(3, -20)),
            ("lift column 2 0", lambda held: held.lift_column(2, 0)),
            ("lift column 0 -5", lambda held: held.lift_column(0, -5)),
            ("set 0 0 2", lambda held: held.change(0, 0, 2)), ("set 0 0 -100", lambda held: held.change(0, 0, -100)),
            ("turn", lambda held: held.turn()),
        ):
            desk, held = Desk(), Session(Q)
            self.same(desk.say(row), "ok")
            deed(held)
            self.assertEqual(desk.session(), held)
            self.same(desk.say("undo"), "ok")
            self.same(desk.session().table(), Q)
            self.raises(NothingToUndo, desk, "undo")

    def test_behind_other_rows(self):
        """Each form of a row behind many a deed, against a session and the functions."""
        source = chance(420)
        for _ in range(30):
            desk, held = Desk(), Session(Q)
            for _ in range(source.randint(1, 12)):
                row, (name, told) = source.choice(list(DEEDS.items()))
                try:
                    getattr(held, name)(*told)
                    self.same(desk.say(row), "ok")
                except NotStraight:
                    self.raises(NotStraight, desk, row)
            self.tells(desk, held)

    def tells(self, desk, held):
        table = held.table()
        self.assertEqual(desk.session(), held)
        for at, line in enumerate(table):
            self.same(desk.say(f"row {at}"), texts(*line))
        self.same(desk.say("firsts"), texts(*held.firsts()))
        self.same(desk.say("least"), texts(*held.least()))
        for count in range(5):
            self.same(desk.say(f"pairs {count}"), str(held.pairs(count)[0]))
        for row, column in itertools.product(range(4), repeat=2):
            down, up = held.room(row, column)
            wanted = ["any" if bound is None else bound for bound in (down, up)]
            self.same(desk.say(f"room {row} {column}"), texts(*wanted))
        cost, tour = best_tour(table)
        self.same(desk.say("tour"), texts(cost, *tour))
        for count in (1, 2, 3):
            total, climb = best_climb(table, count)
            self.same(desk.say(f"climb {count}"), texts(total, *climb))
        self.assertEqual(desk.session(), held)

    def test_entries_of_many_digits_and_below_0(self):
        desk = Desk()
        self.same(desk.say("lift row 0 " + "9" * 20), "ok")
        self.same(desk.say("lift row 1 -" + "9" * 20), "ok")
        self.same(desk.say("row 0"), texts(*[10 ** 20 - 1 + entry for entry in Q[0]]))
        self.same(desk.say("row 1"), texts(*[entry + 1 - 10 ** 20 for entry in Q[1]]))
        self.same(desk.say("least"), texts(1 - 10 ** 20, 1, 1))

    def test_room_without_a_bound(self):
        desk = Desk()
        self.same(desk.say("room 0 0"), "any 2")
        self.same(desk.say("room 0 3"), "2 any")
        self.same(desk.say("set 0 3 1000"), "ok")
        self.same(desk.say("room 0 3"), "993 any")

    def test_combs(self):
        source = chance(421)
        desk = Desk()
        for count in range(2, 13):
            for length in (1, 2, 7, 40):
                word = tuple(source.choices(range(count - 1), k=length))
                self.same(desk.say(texts("comb", count, *word)), texts(*combed(count, word)))

    def test_shared_words(self):
        desk = Desk()
        for one, two in itertools.product(("a", "ab", "abcabc", "zyx", "aaaaaa", "row", "any"), repeat=2):
            self.same(desk.say(f"shared {one} {two}"), str(shared(one, two)))


class FormsTest(DeskCase):
    def test_each_form_is_one(self):
        for row in FORMS:
            desk = Desk()
            if row == "undo":
                desk.say("turn")
            self.assertIsInstance(desk.say(row), str)

    def test_what_is_no_str(self):
        desk = Desk()
        with soon():
            for thing in odd_objects() + deep_objects() + [0, 10 ** 100, b"turn", ["turn"], ("row", "1"), ["row 1"]]:
                with self.assertRaises(BadCommand):
                    desk.say(thing)
            self.same(history(desk.session()), [Q])

    def test_blanks(self):
        for row in FORMS:
            for wrong in (" " + row, row + " ", "  " + row, row + "  ", " " + row + " ", "\t" + row, "\n" + row):
                self.raises(BadCommand, Desk(), wrong)
            for at in range(len(row)):
                if row[at] == " ":
                    for between in ("  ", "   ", "\t", "\n", "\t\n", ",", "-"):
                        self.raises(BadCommand, Desk(), row[:at] + between + row[at + 1:])
            # A word of a text may have any sign but a blank, so that the form is right.
            for behind in ("\t", "\n", "\n\t"):
                self.raises(BadText if row.startswith("shared") else BadCommand, Desk(), row + behind)
        for row in ("", " ", "  ", "\n", "\t"):
            self.raises(BadCommand, Desk(), row)

    def test_a_word_too_many_or_too_few(self):
        for row in FORMS:
            words = row.split(" ")
            for extra in ("0", "1", "x", "ab", row):
                if words[0] == "comb" and extra in ("0", "1"):
                    continue
                self.raises(BadCommand, Desk(), f"{row} {extra}")
            less = words[:-1]
            if less[:1] != ["comb"] or len(less) < 3:
                self.raises(BadCommand, Desk(), " ".join(less))
        for row in ("comb", "comb 3", "shared", "shared a", "lift", "lift row", "lift column 1", "set 1 1", "room 1"):
            self.raises(BadCommand, Desk(), row)

    def test_other_letters(self):
        for row, kinds in FORMS.items():
            words = row.split(" ")
            for at, kind in enumerate(kinds):
                word = words[at]
                for wrong in (word.upper(), word.title(), word + "s", word[:-1], "any", "N", "1"):
                    if kind == "l":
                        self.raises(BadCommand, Desk(), " ".join(words[:at] + [wrong] + words[at + 1:]))
        for row in (
            "rows 1", "lift 1 2", "lift table 1 2", "N 1", "row N", "lift row N M", "shared WORD", "comb N N ..",
            "quit", "help", "redo", "table", "turn turn", "copy", "add 1", "thin 0 0",
        ):
            self.raises(BadCommand, Desk(), row)

    def test_numbers_as_they_may_not_be_written(self):
        for row, kinds in FORMS.items():
            words = row.split(" ")
            for at, kind in enumerate(kinds):
                if kind not in "NM":
                    continue
                for wrong in NO_NUMBERS[4 if kind == "M" else 0:]:
                    self.raises(BadCommand, Desk(), " ".join(words[:at] + [wrong] + words[at + 1:]))

    def test_numbers_of_twenty_digits(self):
        great = "9" * 20
        for row, error in (
            (f"row {great}", BadIndex), (f"lift row {great} 1", BadIndex), (f"lift column {great} 1", BadIndex),
            (f"set {great} 0 1", BadIndex), (f"set 0 {great} 1", BadIndex), (f"set 0 0 {great}", NotStraight),
            (f"pairs {great}", BadNumber), (f"room {great} 0", BadIndex), (f"room 0 {great}", BadIndex),
            (f"climb {great}", BadNumber), (f"comb {great} 0", BadNumber), (f"comb 3 {great}", BadWord),
        ):
            self.raises(error, Desk(), row)
            self.raises(BadCommand, Desk(), row.replace(great, great + "9"))
        for row in (f"lift row 0 {great}", f"lift row 0 -{great}", f"lift column 0 -{great}", f"set 0 0 -{great}"):
            self.same(Desk().say(row), "ok")
            self.raises(BadCommand, Desk(), row.replace(great, great + "9"))

    def test_long_rows_are_answered_soon(self):
        with soon():
            for row in ("comb 3" + " 0" * 10 ** 5, "comb 3" + " 1" * 41):
                self.raises(BadWord, Desk(), row)
            many = 10 ** 5
            for row in ("0 " * many, "row " + "9" * many, " " * many, "a" * many, "comb 3" + " 0" * many + " x"):
                self.raises(BadCommand, Desk(), row)
            self.raises(BadText, Desk(), "shared a " + "a" * 10 ** 5)


class ErrorsTest(DeskCase):
    def test_right_rows_with_what_is_not_right_in_them(self):
        for row, error in (
            ("row 4", BadIndex), ("row 10", BadIndex), ("lift row 4 1", BadIndex), ("lift column 4 -1", BadIndex),
            ("set 4 0 0", BadIndex), ("set 0 4 0", BadIndex), ("set 4 4 100", BadIndex), ("set 0 0 3", NotStraight),
            ("set 1 1 -3", NotStraight), ("undo", NothingToUndo), ("pairs 5", BadNumber), ("room 4 0", BadIndex),
            ("room 0 4", BadIndex), ("climb 0", BadNumber), ("climb 4", BadNumber), ("comb 0 0", BadNumber),
            ("comb 13 0", BadNumber), ("comb 13 99", BadNumber), ("comb 3 2", BadWord), ("comb 1 0", BadWord),
            ("comb 3 0 1 2", BadWord), ("comb 12 0 11", BadWord), ("shared abcdefg a", BadText),
            ("shared a abcdefg", BadText), ("shared A a", BadText), ("shared a 1", BadText), ("shared -1 a", BadText),
            ("shared a a\t", BadText), ("shared a\n a", BadText), ("shared ~ a", BadText), ("shared \n \t", BadText),
        ):
            desk = Desk()
            self.raises(error, desk, row)
            self.assertEqual(history(desk.session()), [Q])
            desk.say("turn")
            desk.say("lift row 0 5")
            if row != "undo" and not row.startswith("set"):
                self.raises(error, desk, row)

    def test_numbers_of_the_forms_that_are_right(self):
        desk = Desk()
        self.same(desk.say("lift row 0 0"), "ok")
        self.same(desk.say("comb 10 0"), "1 0 2 3 4 5 6 7 8 9")
        self.same(desk.say("lift column 0 10"), "ok")
        self.same(desk.say("lift column 0 -10"), "ok")

    def test_the_fifty_first_deed(self):
        desk = Desk()
        for at in range(50):
            self.same(desk.say(f"lift row {at - at // 4 * 4} {at}"), "ok")
        for row in ("lift row 0 0", "lift column 1 -1", "set 0 0 -100", "turn"):
            self.raises(Full, desk, row)
        # All other errors come ahead of it, and what is no deed is answered still.
        for row, error in (
            ("lift row 4 0", BadIndex), ("set 3 3 1000", NotStraight), ("lift row 0 -0", BadCommand),
            ("row 4", BadIndex),
        ):
            self.raises(error, desk, row)
        self.same(desk.say("shared a a"), "1")
        self.same(desk.say("pairs 0"), "0")
        self.same(desk.say("undo"), "ok")
        self.same(desk.say("turn"), "ok")
        self.raises(Full, desk, "turn")
        for _ in range(50):
            self.same(desk.say("undo"), "ok")
        self.raises(NothingToUndo, desk, "undo")
        self.same(desk.session().table(), Q)

    def test_a_row_that_is_no_deed_is_not_taken_back(self):
        desk = Desk()
        desk.say("lift row 0 1")
        for row in FORMS:
            if FORMS[row] != "llNM" and row not in ("set 0 0 -1", "turn", "undo"):
                desk.say(row)
        desk.say("undo")
        self.same(desk.session().table(), Q)
        self.raises(NothingToUndo, desk, "undo")


class SessionTest(DeskCase):
    def test_it_is_a_copy_which_changes_nothing_at_the_desk(self):
        desk = Desk()
        desk.say("lift row 0 5")
        held = desk.session()
        self.assertIsInstance(held, Session)
        self.assertIsNot(held, desk.session())
        self.assertEqual(held, desk.session())
        before = held.table()
        held.turn()
        held.thin((0,), (0,))
        self.same(desk.session().table(), before)
        self.same(desk.say("row 0"), "5 6 9 14")
        desk.say("undo")
        self.same(held.table(), ((5,),))
        self.same(history(held), [((5,),), tuple(zip(*before)), before, Q])
        self.same(history(desk.session()), [Q])

    def test_deeds_of_the_desk_count_in_the_copy(self):
        desk = Desk()
        for _ in range(50):
            desk.say("turn")
        held = desk.session()
        self.assertRaises(Full, held.turn)
        held.undo()
        held.turn()
        self.raises(Full, desk, "turn")

    def test_desks_go_their_own_ways(self):
        one, two = Desk(), Desk()
        one.say("lift row 0 5")
        self.same(two.say("row 0"), "0 1 4 9")
        self.raises(NothingToUndo, two, "undo")


if __name__ == "__main__":
    unittest.main()
