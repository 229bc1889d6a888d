"""The errors of the package: one class for each kind of failure."""


class LeastError(ValueError):
    """Any error of the package."""


class BadTable(LeastError):
    """What is no table."""


class NotStraight(LeastError):
    """A table in which some crossing pays."""


class BadSquare(LeastError):
    """A table that has not as many columns as rows, or too few places."""


class BadNumbers(LeastError):
    """What is no tuple of as many integers as are wanted."""


class BadNumber(LeastError):
    """What is no integer within its bounds."""


class BadSizes(LeastError):
    """Things whose sizes do not fit together."""


class BadIndexes(LeastError):
    """What are no indexes of rows or of columns."""


class BadIndex(LeastError):
    """What is no index of a row, a column or a place."""


class BadRows(LeastError):
    """A text that is none of a table: at this word of this row, from 0."""

    def __init__(self, row, word):
        super().__init__(f"not as a table is written: row {row}, word {word}")
        self.row = row
        self.word = word


class BadParts(LeastError):
    """What are no parts of a table."""


class BadChain(LeastError):
    """What is no chain of tables."""


class BadWay(LeastError):
    """What is no way over places."""


class BadPairing(LeastError):
    """What is no pairing."""


class BadStocks(LeastError):
    """What are no stocks."""


class BadWishes(LeastError):
    """What are no wishes, or none that are together what the stocks are."""


class BadFilling(LeastError):
    """What is no filling."""


class BadTour(LeastError):
    """What is no tour."""


class BadClimb(LeastError):
    """What is no climb."""


class BadOrder(LeastError):
    """What is no sequence of all rows or of all columns."""


class BadStrands(LeastError):
    """What is no row of strands."""


class BadCounts(LeastError):
    """What is no counts table of strands."""


class BadWord(LeastError):
    """What is no word for strands."""


class BadText(LeastError):
    """What is no text of letters."""


class BadTree(LeastError):
    """What is no join tree."""


class BadHouses(LeastError):
    """What are no houses on a street."""


class BadPosts(LeastError):
    """What are no posts at houses."""


class NothingToUndo(LeastError):
    """No deed is in force that could be taken back."""


class Full(LeastError):
    """As many deeds are in force as may be."""


class BadCommand(LeastError):
    """What is no row of a form that the desk knows."""


class TooMany(LeastError):
    """More than the function looks through."""
