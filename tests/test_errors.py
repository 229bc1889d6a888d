"""The error classes of the interface."""

import copy
import inspect
import unittest

from straightleast import errors
from straightleast.errors import BadRows, LeastError

NAMES = [
    "BadTable", "NotStraight", "BadSquare", "BadNumbers", "BadNumber", "BadSizes", "BadIndexes",
    "BadIndex", "BadRows", "BadParts", "BadChain", "BadWay", "BadPairing", "BadStocks", "BadWishes",
    "BadFilling", "BadTour", "BadClimb", "BadOrder", "BadStrands", "BadCounts", "BadWord", "BadText",
    "BadTree", "BadHouses", "BadPosts", "NothingToUndo", "Full", "BadCommand", "TooMany",
]
CLASSES = [getattr(errors, name) for name in NAMES]
PLAIN = [one for one in CLASSES if one is not BadRows]


class ErrorClassesTest(unittest.TestCase):
    def test_there_are_thirty_and_the_one_above(self):
        self.assertEqual(len(set(CLASSES)), 30)
        found = [name for name, _ in inspect.getmembers(errors, inspect.isclass)]
        self.assertEqual(sorted(found), sorted(NAMES + ["LeastError"]))

    def test_each_is_defined_in_this_file_under_its_name(self):
        for name, one in zip(NAMES + ["LeastError"], CLASSES + [LeastError]):
            self.assertEqual(one.__name__, name)
            self.assertEqual(one.__module__, "straightleast.errors")

    def test_each_stands_directly_under_the_one_above(self):
        self.assertEqual(LeastError.__bases__, (ValueError,))
        for one in CLASSES:
            self.assertEqual(one.__bases__, (LeastError,), one)

    def test_each_is_none_of_the_others(self):
        for one in CLASSES:
            self.assertTrue(issubclass(one, LeastError) and issubclass(one, ValueError))
            for other in CLASSES:
                self.assertEqual(issubclass(one, other), one is other)

    def test_each_without_fields_is_made_with_one_text(self):
        for one in PLAIN + [LeastError]:
            error = one("a text")
            self.assertIs(type(error), one)
            self.assertEqual(str(error), "a text")
            with self.assertRaises(ValueError) as caught:
                raise error
            self.assertIs(caught.exception, error)

    def test_objects_are_of_one_class_alone(self):
        for one in PLAIN:
            kinds_of_it = [other for other in CLASSES if isinstance(one("a text"), other)]
            self.assertEqual(kinds_of_it, [one])
        self.assertEqual([one for one in CLASSES if isinstance(BadRows(0, 0), one)], [BadRows])


class BadRowsTest(unittest.TestCase):
    def test_by_position(self):
        error = BadRows(3, 5)
        self.assertEqual((error.row, error.word), (3, 5))

    def test_by_name(self):
        error = BadRows(word=5, row=3)
        self.assertEqual((error.row, error.word), (3, 5))
        error = BadRows(3, word=5)
        self.assertEqual((error.row, error.word), (3, 5))

    def test_the_names_are_those_of_the_interface(self):
        self.assertEqual(list(inspect.signature(BadRows).parameters), ["row", "word"])

    def test_both_fields_are_wanted(self):
        for told in ((), (1,), (1, 2, 3)):
            with self.assertRaises(TypeError):
                BadRows(*told)

    def test_fields_are_those_of_each_object(self):
        one, other = BadRows(0, 1), BadRows(8, 0)
        self.assertEqual(copy.copy(vars(one)), {"row": 0, "word": 1})
        self.assertEqual(copy.copy(vars(other)), {"row": 8, "word": 0})

    def test_it_is_raised_and_caught_as_each_class_above(self):
        for above in (BadRows, LeastError, ValueError):
            with self.assertRaises(above) as caught:
                raise BadRows(1, 2)
            self.assertEqual((caught.exception.row, caught.exception.word), (1, 2))
            self.assertIsInstance(str(caught.exception), str)


if __name__ == "__main__":
    unittest.main()
