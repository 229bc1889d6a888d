"""A desk: rows of words, answered by words, over one session."""

from straightleast.checks import check_index
from straightleast.climbs import best_climb
from straightleast.errors import BadCommand
from straightleast.letters import shared
from straightleast.session import Session
from straightleast.strands import combed
from straightleast.texts import is_written_integer, is_written_number
from straightleast.tours import best_tour

FIRST_TABLE = ((0, 1, 4, 9), (1, 0, 1, 4), (4, 1, 0, 1), (9, 4, 1, 0))
MOST_DIGITS = 20


def row_of(session, told):
    """The entries of a row."""
    table = session.table()
    check_index(told[0], 0, len(table) - 1)
    return table[told[0]]


def firsts_of(session, told):
    """The first column of the least entry of each row."""
    return session.firsts()


def least_of(session, told):
    """The least entry, its row and its column."""
    return session.least()


def lift_row(session, told):
    """A row is lifted."""
    session.lift_row(told[0], told[1])
    return ("ok",)


def lift_column(session, told):
    """A column is lifted."""
    session.lift_column(told[0], told[1])
    return ("ok",)


def set_entry(session, told):
    """An entry is set."""
    session.change(told[0], told[1], told[2])
    return ("ok",)


def turn_about(session, told):
    """Rows and columns are exchanged."""
    session.turn()
    return ("ok",)


def take_back(session, told):
    """The last deed in force is taken back."""
    session.undo()
    return ("ok",)


def pairs_of(session, told):
    """The least sum of so many pairs."""
    return session.pairs(told[0])[:1]


def room_of(session, told):
    """How much the entry can be less and greater."""
    return ["any" if bound is None else bound for bound in session.room(told[0], told[1])]


def tour_of(session, told):
    """The cost and the places of the best tour."""
    cost, places = best_tour(session.table())
    return (cost,) + places


def climb_of(session, told):
    """The sum and the places of the best climb of so many steps."""
    total, places = best_climb(session.table(), told[0])
    return (total,) + places


def strands_told(session, told):
    """The strands that a word makes."""
    return combed(told[0], tuple(told[1:]))


def shared_told(session, told):
    """The greatest shared length of two texts."""
    return (shared(told[0], told[1]),)


# The forms of a row, and what answers each. N is a number from 0 on, M any
# integer, WORD any word, and what stands ahead of .. may come more than once.
ANSWERS = {
    "row N": row_of,
    "firsts": firsts_of,
    "least": least_of,
    "lift row N M": lift_row,
    "lift column N M": lift_column,
    "set N N M": set_entry,
    "turn": turn_about,
    "undo": take_back,
    "pairs N": pairs_of,
    "room N N": room_of,
    "tour": tour_of,
    "climb N": climb_of,
    "comb N N ..": strands_told,
    "shared WORD WORD": shared_told,
}


class Desk:
    """A session that begins with the table of the document's examples, and answers rows."""

    def __init__(self):
        self._held = Session(FIRST_TABLE)

    def say(self, row):
        """The answer to a row."""
        if not isinstance(row, str):
            raise BadCommand("a row is a str")
        words = row.split(" ")
        for form in ANSWERS:
            kinds = kinds_of(form, len(words))
            if are_of_kinds(words, kinds):
                answer = ANSWERS[form]
                found = answer(self._held, told_by(words, kinds))
                return " ".join([str(word) for word in found])
        raise BadCommand("the row is of no form that is known here")

    def session(self):
        """A copy of the session."""
        return self._held.copy()


def kinds_of(form, count):
    """The words of a form, of which a last one that may come more than once comes so that they are so many."""
    kinds = form.split(" ")
    if kinds[-1] == "..":
        kinds.pop()
        kinds += kinds[-1:] * (count - len(kinds))
    return kinds


def are_of_kinds(words, kinds):
    """Whether each word is of the kind that stands at its place."""
    if len(words) != len(kinds):
        return False
    for word, kind in zip(words, kinds):
        if not is_of_kind(word, kind):
            return False
    return True


def is_of_kind(word, kind):
    """Whether the word is a number, an integer, any word, or the very word that is wanted."""
    if kind == "N":
        return is_written_number(word, MOST_DIGITS)
    if kind == "M":
        return is_written_integer(word, MOST_DIGITS)
    if kind == "WORD":
        return word != ""
    return word == kind


def told_by(words, kinds):
    """What the words tell, those left out that the form itself has."""
    found = []
    for word, kind in zip(words, kinds):
        if kind == "WORD":
            found.append(word)
        elif kind in ("N", "M"):
            found.append(int(word))
    return found
