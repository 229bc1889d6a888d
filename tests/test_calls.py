"""Point 2, as it holds of every function: names, kinds, errors in their order, nothing changed."""

import copy
import importlib
import inspect
import itertools
import unittest

from straightleast import tables, texts
from straightleast.desk import Desk
from straightleast.errors import (
    BadChain, BadIndexes, BadNumber, BadNumbers, BadRows, BadSizes, BadSquare, BadTable, BadText, LeastError,
    NotStraight,
)
from straightleast.session import Session

from tests import calls
from tests.calls import TABLE
from tests.samples import (
    Q, deep_objects, doubled, doubled_dict, kinds, lists_in, odd_objects, soon, straight_by_all_pairs,
    tables_that_are_not_square, tables_that_are_not_straight, wrong_tables,
)
from tests.session_calls import METHODS, STAGE_5
from tests.strand_calls import STAGE_4

FUNCTIONS = calls.CALLS + STAGE_4 + STAGE_5
CALLS = FUNCTIONS + METHODS

# The functions and their parameters, as the interface of the document lists them.
INTERFACE = {
    "tables": """
        is_table(thing) is_straight(table) first_crossing(table) count_crossings(table)
        lifted(table,rows,columns) added(table,other) scaled(table,times) turned(table)
        thinned(table,rows,columns) mirrored(table) is_crooked(table) reduced(table)
    """,
    "texts": "write_table(table) read_table(text)",
    "parts": "parts(table) built(told) gain(table,row,other,column,last) rooms(table) changed(table,row,column,number)",
    "least": """
        firsts(table) lasts(table) least_entries(table) least_in(table,row,column,end)
        least_of_stretch(table,row,stop,column,end) looks(table) count_looks(table)
    """,
    "products": """
        product(table,other) middles(table,other) last_middles(table,other) product_of(tables)
        chain_way(tables,row,column) power(table,count) way(table,place,other,count) way_cost(table,way)
        least_round(table)
    """,
    "pairings": """
        pairing_cost(table,pairing) count_least_pairings(table) uncrossings(table,pairing)
        uncrossings_hold(table,pairing,thing) best_pairs(table,count) pair_sums(table) pairs_at_price(table,price)
        pair_prices(table)
    """,
    "fillings": """
        corner_filling(table,stocks,wishes) filling_holds(table,stocks,wishes,thing)
        filling_cost(table,stocks,wishes,filling) prices(table,stocks,wishes) prices_hold(table,stocks,wishes,thing)
    """,
    "tours": """
        tour_cost(table,tour) is_up_and_down(table,tour) up_and_down_tours(count) best_tour(table)
        best_through(table) tours_of_cost(table)
    """,
    "climbs": """
        climb_cost(table,climb) best_climb(table,count) climb_sums(table) last_steps(table,count)
        best_of_all(table) climbs_at_price(table,price) climb_prices(table)
    """,
    "orders": """
        is_order_for(table,rows,columns) reordered(table,rows,columns) first_order(table) all_orders(table)
        like_rows(table) like_columns(table) no_order(table)
    """,
    "strands": """
        count_meetings(strands) counts_table(strands) strands_of(counts) joined(strands,other)
        joined_times(strands,count) is_idle(strands) combed(count,word) word_of(strands) count_words(strands)
        same_combed(count,word,other) is_below(strands,other) covered(strands) rest_of(strands,other)
    """,
    "letters": """
        shared(text,other) shared_text(text,other) edits(text,other) letter_strands(text,other)
        shared_window(text,other,start,end) window_table(text,other) windows(text,other,count)
        below_letters(strands,other,first,second,letters)
    """,
    "joins": """
        join_cost(table,tree) is_join_tree(table,thing) join_trees(count) grows(table) least_joins(table)
        splits(table) last_splits(table) best_joins(table) count_best_joins(table)
    """,
    "posts": """
        posts_cost(houses,posts) post_stretches(houses,posts) stretch_cost(houses,first,end)
        best_posts(houses,count) post_sums(houses) posts_at_price(houses,price) stretch_table(houses)
    """,
}

# The methods of the classes of the interface.
CLASSES = {
    Session: """
        __init__(self,table) lift_row(self,row,number) lift_column(self,column,number)
        change(self,row,column,number) thin(self,rows,columns) add(self,table) turn(self) undo(self) table(self)
        firsts(self) least(self) pairs(self,count) room(self,row,column) __len__(self) __eq__(self,other) copy(self)
    """,
    Desk: "__init__(self) say(self,row) session(self)",
}

# Few objects of every kind that stand behind an argument that is wrong itself.
BEHIND = [None, True, -1, 0, (), [], {}, "", 10 ** 100, Q, doubled((), tuple)]


def swapped(call, at, thing):
    return call.told[:at] + (thing,) + call.told[at + 1:]


def judged(call, at):
    """Whether the argument is any object that is judged."""
    return all(error is None for error, _ in call.faults[at])


class InterfaceTest(unittest.TestCase):
    def test_each_function_with_its_names_is_called_here(self):
        listed = set()
        for module, text in INTERFACE.items():
            for told in text.split():
                name, names = told.rstrip(")").split("(")
                listed.add((f"straightleast.{module}", name, tuple(names.split(","))))
        called = {(call.function.__module__, call.function.__name__, tuple(call.names)) for call in FUNCTIONS}
        self.assertEqual(called, listed)

    def test_each_is_defined_in_its_file_with_the_names_of_the_interface(self):
        for function, names, *_ in FUNCTIONS:
            module = importlib.import_module(function.__module__)
            self.assertIs(getattr(module, function.__name__), function)
            parameters = inspect.signature(function).parameters
            self.assertEqual(list(parameters), names)
            for parameter in parameters.values():
                self.assertIs(parameter.default, inspect.Parameter.empty)
                self.assertIs(parameter.kind, inspect.Parameter.POSITIONAL_OR_KEYWORD)

    def test_each_method_is_defined_in_its_class_with_the_names_of_the_interface(self):
        for one, text in CLASSES.items():
            self.assertEqual(one.__module__, f"straightleast.{one.__name__.lower()}")
            for told in text.split():
                name, names = told.rstrip(")").split("(")
                parameters = inspect.signature(vars(one)[name]).parameters
                self.assertEqual(list(parameters), names.split(","))
                for parameter in parameters.values():
                    self.assertIs(parameter.default, inspect.Parameter.empty)
                    self.assertIs(parameter.kind, inspect.Parameter.POSITIONAL_OR_KEYWORD)
            public = [name for name in vars(one) if not name.startswith("_")]
            self.assertEqual(len(public), len([name for name in text.split() if not name.startswith("__")]))


class CallsTest(unittest.TestCase):
    def test_by_position_and_by_name(self):
        for function, names, told, wanted, _ in CALLS:
            self.assertEqual(kinds(function(*told)), kinds(wanted), function)
            by_name = dict(zip(names, told))
            self.assertEqual(kinds(function(**by_name)), kinds(wanted), function)
            turned_about = dict(reversed(list(by_name.items())))
            self.assertEqual(kinds(function(**turned_about)), kinds(wanted), function)
            for split in range(len(told)):
                rest = dict(list(by_name.items())[split:])
                self.assertEqual(kinds(function(*told[:split], **rest)), kinds(wanted), function)

    def test_equal_calls_return_equal_results(self):
        for function, _, told, wanted, _ in CALLS:
            for _ in range(3):
                self.assertEqual(kinds(function(*copy.deepcopy(told))), kinds(wanted))

    def test_true_results_are_true_and_false(self):
        self.assertIs(tables.is_table(Q), True)
        self.assertIs(tables.is_straight(Q), True)
        self.assertIs(tables.is_crooked(Q[::-1]), True)
        for judge in (tables.is_straight, tables.is_crooked):
            self.assertIs(judge(TABLE), False)
        self.assertIs(tables.is_table(None), False)

    def test_true_and_false_stand_for_no_integer(self):
        self.assertEqual(kinds(tables.first_crossing(((0, 0), (0, 1)))), kinds((0, 0)))
        self.assertEqual(kinds(tables.count_crossings(((0, 0), (0, 1)))), kinds(1))
        self.assertEqual(kinds(tables.count_crossings(((0, 0), (0, 0)))), kinds(0))
        for entry in (True, False):
            self.assertIs(tables.is_table(((entry,),)), False)
            self.assertRaises(BadNumbers, tables.lifted, ((0,),), (entry,), (0,))
            self.assertRaises(BadNumbers, tables.lifted, ((0,),), (0,), (entry,))
            self.assertRaises(BadNumber, tables.scaled, ((0,),), entry)
            self.assertRaises(BadIndexes, tables.thinned, TABLE, (entry,), (0,))
            self.assertRaises(BadIndexes, tables.thinned, TABLE, (0,), (entry,))


class ErrorsTest(unittest.TestCase):
    def raises(self, error, call, told):
        # What was told is not shown: written out it may be endless.
        with self.assertRaises(LeastError, msg=call.function) as caught:
            call.function(*told)
        self.assertIs(type(caught.exception), error, call.function)

    def test_each_fault_of_each_argument(self):
        for call in CALLS:
            for at, faults in enumerate(call.faults):
                for error, thing in faults:
                    told = swapped(call, at, thing)
                    if error is None:
                        self.assertIs(call.function(*told), False, call.function)
                    else:
                        self.raises(error, call, told)

    def test_odd_and_deep_objects_in_each_argument(self):
        with soon():
            wrong = odd_objects() + deep_objects()
            for call in CALLS:
                for at in range(len(call.told)):
                    error = call.faults[at][0][0]
                    for thing in wrong:
                        if is_right_somewhere(call, at, thing):
                            continue
                        if error is None:
                            self.assertIs(call.function(*swapped(call, at, thing)), False)
                        else:
                            with self.assertRaises(error):
                                call.function(*swapped(call, at, thing))

    def test_shared_parts_at_every_depth(self):
        with soon():
            for call in CALLS:
                for at, right in enumerate(call.told):
                    for part in (doubled((), tuple), doubled([], list), doubled(0, tuple), doubled_dict()):
                        for thing in with_part_exchanged(right, part):
                            if judged(call, at):
                                self.assertIs(call.function(*swapped(call, at, thing)), False)
                            else:
                                self.raises(call.faults[at][0][0], call, swapped(call, at, thing))

    def test_of_several_wrong_arguments_the_first(self):
        for call in CALLS:
            for at, faults in enumerate(call.faults):
                for error, thing in faults[::5] + faults[-3:]:
                    if error is not None and at + 1 < len(call.told):
                        for behind in BEHIND:
                            rest = (behind,) * (len(call.told) - at - 1)
                            self.raises(error, call, call.told[:at] + (thing,) + rest)
                        wrong = [[one[1] for one in more[-3:]] for more in call.faults[at + 1:]]
                        for rest in itertools.product(*wrong):
                            self.raises(error, call, call.told[:at] + (thing,) + rest)

    def test_a_wrong_table_in_each_place(self):
        with soon():
            wrong = wrong_tables()
            for call in CALLS:
                for at, name in enumerate(call.names):
                    if call.faults[at][0][0] is BadTable:
                        for thing in wrong:
                            with self.assertRaises(BadTable):
                                call.function(*swapped(call, at, thing))

    def test_tables_that_are_not_straight_or_not_square(self):
        wrong = tables_that_are_not_straight() + tables_that_are_not_square()
        for call in CALLS:
            wanted = {error for error, _ in call.faults[0]}
            for thing in wrong:
                error = first_fault_of_table(thing, wanted)
                if error is not None:
                    self.raises(error, call, swapped(call, 0, thing))
                    self.raises(error, call, (thing,) + (None,) * (len(call.told) - 1))

    def test_sizes_come_behind_the_kind_of_the_table(self):
        self.assertRaises(BadTable, tables.added, None, ((0,),))
        self.assertRaises(BadTable, tables.added, TABLE, [[0]])
        self.assertRaises(BadTable, tables.added, TABLE, ((0,) * 9,))
        self.assertRaises(BadSizes, tables.added, TABLE, ((0,),))

    def test_every_error_is_one_of_the_package(self):
        for call in CALLS:
            for error, thing in call.faults[0]:
                if error is not None:
                    for kind in (LeastError, ValueError):
                        with self.assertRaises(kind):
                            call.function(*swapped(call, 0, thing))


def is_right_somewhere(call, at, thing):
    """The odd objects that are a text, with letters or without, or a chain of one table."""
    wrong = [error for error, _ in call.faults[at]]
    if BadRows in wrong:
        return isinstance(thing, str)
    if BadText in wrong:
        return thing == ""
    return BadChain in wrong and thing == (((0,),),)


def first_fault_of_table(thing, wanted):
    """The error of this table if a square one, or a straight one, is wanted."""
    if BadSquare in wanted and len(thing) != len(thing[0]):
        return BadSquare
    if NotStraight in wanted and not straight_by_all_pairs(thing):
        return NotStraight
    return None


def with_part_exchanged(value, part):
    """The value with one of its parts exchanged, at each depth."""
    if isinstance(value, (tuple, list)):
        for at, inner in enumerate(value):
            for other in [part, *with_part_exchanged(inner, part)]:
                yield type(value)((*value[:at], other, *value[at + 1:]))


class NothingChangedTest(unittest.TestCase):
    def test_what_was_handed_in_stays_as_it_was(self):
        for thing in odd_objects() + [[[3, 1], [2, 0]], [(3, 1), (2, 0)], {"a": [2, 1]}]:
            before = copy.deepcopy(thing)
            for call in CALLS:
                for at in range(len(call.told)):
                    try:
                        call.function(*swapped(call, at, thing))
                    except LeastError:
                        pass
                    self.assertEqual(kinds(thing), kinds(before))

    def test_right_arguments_too(self):
        for call in CALLS:
            before = copy.deepcopy(call.told)
            call.function(*call.told)
            self.assertEqual(kinds(call.told), kinds(before))

    def test_each_list_is_new_and_stands_in_one_place(self):
        for call in CALLS:
            found = [call.function(*call.told) for _ in range(3)] + list(call.told)
            lists = lists_in(found)[1:]
            self.assertEqual(len({id(one) for one in lists}), len(lists), call.function)

    def test_a_list_that_the_caller_changes_changes_no_later_answer(self):
        for call in CALLS:
            told = copy.deepcopy(call.told)
            for one in lists_in(call.function(*told)):
                one.append(99)
                one.reverse()
            self.assertEqual(kinds(told), kinds(call.told))
            self.assertEqual(kinds(call.function(*told)), kinds(call.wanted))
            for one in lists_in(told):
                one.clear()
            self.assertEqual(kinds(call.function(*call.told)), kinds(call.wanted))

    def test_what_is_returned_is_new(self):
        source = ((5, 3), (1, 4))
        calls = [
            (tables.lifted, (source, (0, 0), (0, 0))), (tables.added, (source, ((0, 0), (0, 0)))),
            (tables.scaled, (source, 1)), (tables.turned, (source,)), (tables.mirrored, (source,)),
            (tables.thinned, (source, (0, 1), (0, 1))), (tables.reduced, (source,)),
        ]
        for function, told in calls:
            self.assertIsNot(function(*told), source)
            self.assertIsNot(function(*told), function(*told))
        self.assertIsNot(tables.mirrored(source[:1]), source[:1])
        self.assertIsNot(texts.read_table("1 2"), texts.read_table("1 2"))


if __name__ == "__main__":
    unittest.main()
