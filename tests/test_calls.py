"""Point 2, as it holds of every function: names, kinds, errors in their order, nothing changed."""

import copy
import inspect
import unittest

from straightleast import tables, texts
from straightleast.errors import BadIndexes, BadNumber, BadNumbers, BadRows, BadSizes, BadTable, LeastError

from tests.samples import Q, doubled, doubled_dict, kinds, odd_objects, soon, wrong_tables

TABLE = ((4, 1, 7), (2, 2, 0))

# The function, the names of its parameters, right arguments and what is returned.
CALLS = [
    (tables.is_table, ["thing"], (TABLE,), True),
    (tables.is_straight, ["table"], (TABLE,), False),
    (tables.first_crossing, ["table"], (TABLE,), (0, 0)),
    (tables.count_crossings, ["table"], (TABLE,), 1),
    (tables.lifted, ["table", "rows", "columns"], (TABLE, (10, 20), (1, 2, 3)), ((15, 13, 20), (23, 24, 23))),
    (tables.added, ["table", "other"], (TABLE, ((1, 1, 1), (0, 0, 5))), ((5, 2, 8), (2, 2, 5))),
    (tables.scaled, ["table", "times"], (TABLE, 3), ((12, 3, 21), (6, 6, 0))),
    (tables.turned, ["table"], (TABLE,), ((4, 2), (1, 2), (7, 0))),
    (tables.thinned, ["table", "rows", "columns"], (TABLE, (1,), (0, 2)), ((2, 0),)),
    (tables.mirrored, ["table"], (TABLE,), ((2, 2, 0), (4, 1, 7))),
    (tables.is_crooked, ["table"], (TABLE,), False),
    (tables.reduced, ["table"], (TABLE,), (((1, 0, 6), (0, 2, 0)), (1, 0), (2, 0, 0))),
    (texts.write_table, ["table"], (TABLE,), "4 1 7\n2 2 0"),
    (texts.read_table, ["text"], ("4 1 7\n2 2 0",), TABLE),
]

# The error of an argument that is right in no call, for each function and parameter.
ERRORS = {
    "lifted": [BadTable, BadNumbers, BadNumbers],
    "added": [BadTable, BadTable],
    "scaled": [BadTable, BadNumber],
    "thinned": [BadTable, BadIndexes, BadIndexes],
    "read_table": [BadRows],
}


def errors_of(function):
    return ERRORS.get(function.__name__, [BadTable])


class CallsTest(unittest.TestCase):
    def test_each_is_defined_in_its_file_with_the_names_of_the_interface(self):
        for function, names, _, _ in CALLS:
            module = tables if function.__module__ == "straightleast.tables" else texts
            self.assertEqual(function.__module__, module.__name__)
            self.assertIs(getattr(module, function.__name__), function)
            parameters = inspect.signature(function).parameters
            self.assertEqual(list(parameters), names)
            for parameter in parameters.values():
                self.assertIs(parameter.default, inspect.Parameter.empty)
                self.assertIs(parameter.kind, inspect.Parameter.POSITIONAL_OR_KEYWORD)

    def test_by_position_and_by_name(self):
        for function, names, told, wanted in CALLS:
            self.assertEqual(kinds(function(*told)), kinds(wanted), function)
            by_name = dict(zip(names, told))
            self.assertEqual(kinds(function(**by_name)), kinds(wanted), function)
            turned_about = dict(reversed(list(by_name.items())))
            self.assertEqual(kinds(function(**turned_about)), kinds(wanted), function)
            for split in range(len(told)):
                rest = dict(list(by_name.items())[split:])
                self.assertEqual(kinds(function(*told[:split], **rest)), kinds(wanted), function)

    def test_equal_calls_return_equal_results(self):
        for function, _, told, wanted in CALLS:
            for _ in range(3):
                self.assertEqual(function(*copy.deepcopy(told)), wanted)

    def test_true_results_are_true_and_false(self):
        self.assertIs(tables.is_table(Q), True)
        self.assertIs(tables.is_straight(Q), True)
        self.assertIs(tables.is_crooked(Q[::-1]), True)
        for judge in (tables.is_straight, tables.is_crooked):
            self.assertIs(judge(TABLE), False)
        self.assertIs(tables.is_table(None), False)

    def test_true_and_false_stand_for_no_integer(self):
        self.assertEqual(kinds(tables.first_crossing(((0, 0), (0, 1)))), kinds((0, 0)))
        self.assertEqual(kinds(tables.count_crossings(((0, 0), (0, 1)))), kinds(1))
        self.assertEqual(kinds(tables.count_crossings(((0, 0), (0, 0)))), kinds(0))
        for entry in (True, False):
            self.assertIs(tables.is_table(((entry,),)), False)
            self.assertRaises(BadNumbers, tables.lifted, ((0,),), (entry,), (0,))
            self.assertRaises(BadNumbers, tables.lifted, ((0,),), (0,), (entry,))
            self.assertRaises(BadNumber, tables.scaled, ((0,),), entry)
            self.assertRaises(BadIndexes, tables.thinned, TABLE, (entry,), (0,))
            self.assertRaises(BadIndexes, tables.thinned, TABLE, (0,), (entry,))

    def test_lists_stand_for_no_tuples(self):
        self.assertRaises(BadNumbers, tables.lifted, TABLE, [0, 0], (0, 0, 0))
        self.assertRaises(BadNumbers, tables.lifted, TABLE, (0, 0), [0, 0, 0])
        self.assertRaises(BadIndexes, tables.thinned, TABLE, [0], (0,))
        self.assertRaises(BadIndexes, tables.thinned, TABLE, (0,), [0])
        for function, names, told, _ in CALLS:
            if names[0] == "table":
                for thing in (list(TABLE), [list(row) for row in TABLE], tuple(list(row) for row in TABLE)):
                    self.assertRaises(BadTable, function, thing, *told[1:])


class ErrorsTest(unittest.TestCase):
    def test_a_wrong_table_in_each_place(self):
        with soon():
            wrong = wrong_tables()
            for function, names, told, _ in CALLS:
                for at, name in enumerate(names):
                    if name in ("table", "other"):
                        for thing in wrong:
                            with self.assertRaises(BadTable):
                                function(*told[:at], thing, *told[at + 1:])

    def test_each_wrong_argument_has_its_error(self):
        with soon():
            for function, names, told, _ in CALLS[1:]:
                for at, error in enumerate(errors_of(function)):
                    for thing in self.wrong_for(names[at]):
                        with self.assertRaises(error) as caught:
                            function(*told[:at], thing, *told[at + 1:])
                        self.assertIs(type(caught.exception), error)

    def test_of_several_wrong_arguments_the_first(self):
        with soon():
            for function, names, told, _ in CALLS[1:]:
                for at, error in enumerate(errors_of(function)):
                    for thing in self.wrong_for(names[at])[::3]:
                        for behind in (None, True, -1, (), [], doubled((), tuple)):
                            rest = (behind,) * (len(names) - at - 1)
                            with self.assertRaises(error):
                                function(*told[:at], thing, *rest)

    def wrong_for(self, name):
        wrong = odd_objects() + [doubled((), tuple), doubled([], list), doubled_dict()]
        return [thing for thing in wrong if not (name == "text" and isinstance(thing, str))]

    def test_sizes_come_behind_the_kind_of_the_table(self):
        self.assertRaises(BadTable, tables.added, None, ((0,),))
        self.assertRaises(BadTable, tables.added, TABLE, [[0]])
        self.assertRaises(BadTable, tables.added, TABLE, ((0,) * 9,))
        self.assertRaises(BadSizes, tables.added, TABLE, ((0,),))

    def test_every_error_is_one_of_the_package(self):
        for function, names, told, _ in CALLS[1:]:
            for thing in self.wrong_for(names[0]):
                with self.assertRaises(LeastError):
                    function(thing, *told[1:])
                with self.assertRaises(ValueError):
                    function(thing, *told[1:])


class NothingChangedTest(unittest.TestCase):
    def test_what_was_handed_in_stays_as_it_was(self):
        for thing in odd_objects() + [[[3, 1], [2, 0]], [(3, 1), (2, 0)], {"a": [2, 1]}]:
            before = copy.deepcopy(thing)
            for function, names, told, _ in CALLS:
                for at in range(len(names)):
                    try:
                        function(*told[:at], thing, *told[at + 1:])
                    except LeastError:
                        pass
                    self.assertEqual(kinds(thing), kinds(before))

    def test_right_arguments_too(self):
        for function, _, told, _ in CALLS:
            before = copy.deepcopy(told)
            function(*told)
            self.assertEqual(kinds(told), kinds(before))

    def test_what_is_returned_is_new(self):
        source = ((5, 3), (1, 4))
        calls = [
            (tables.lifted, (source, (0, 0), (0, 0))), (tables.added, (source, ((0, 0), (0, 0)))),
            (tables.scaled, (source, 1)), (tables.turned, (source,)), (tables.mirrored, (source,)),
            (tables.thinned, (source, (0, 1), (0, 1))), (tables.reduced, (source,)),
        ]
        for function, told in calls:
            self.assertIsNot(function(*told), source)
            self.assertIsNot(function(*told), function(*told))
        self.assertIsNot(tables.mirrored(source[:1]), source[:1])
        self.assertIsNot(texts.read_table("1 2"), texts.read_table("1 2"))


if __name__ == "__main__":
    unittest.main()
