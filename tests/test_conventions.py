"""What 0.2 says of all functions: names and positions, equal results, and which error of several is raised."""
import copy
import importlib
import itertools
import unittest

from tests.anyvalues import FORKED, NO_BOOKS, NO_GARDENS, NO_INTEGERS, NO_NUMBERS, NO_WEBS, NO_WISHES, ROW, TIE, raised
from tests.assorted import LONG
from tests.test_interface import INTERFACE

GARDEN = (TIE, LONG)
WISH = ("or", ("paired",), ("not", ("sided",)))
PLAN = ("plan", ((0, 1),), (((((0, 1), ((0,), (0, 1))),), ()), ((((0,), ((0, 1), ())),), (((0, 1), ((0, 1),)),))))
ROWS = ((("one", (True, 1, 1)),),) * 2

# For each function right arguments, and what it refuses: parameter, error, values; the error of the first one is raised.
GARDENS, BOOKS, WEBS = ("BadGarden", NO_GARDENS), ("BadBook", NO_BOOKS), ("BadWeb", NO_WEBS)
WISHES, NUMBERS = ("BadWish", NO_WISHES), ("BadNumber", NO_NUMBERS)
ROWS_OF_TIES = ("BadRow", NO_INTEGERS[:4] + ((1,), (0, 2), (0, True), [0], (0, 1, 1), ()))
ADDRESSES = ("BadAddress", NO_INTEGERS + (((), 2), ((0,), 3), ((0, 1), 2), ((0,), True), [(), 0], ((), 0, 0)))
MARKS = ("BadMarks", NO_INTEGERS[:4] + ((), (("one", 1),), [("one", "odd")] * 2, ("one", "one"), ((0, 1), (0, 1))))
CALLS = {
    ("rounds", "one_round"): ((FORKED, LONG), ("web",) + WEBS, ("book",) + BOOKS),
    ("rounds", "grown"): ((GARDEN, 3), ("garden",) + GARDENS, ("n",) + NUMBERS),
    ("rounds", "joined_book"): ((LONG, LONG), ("one",) + BOOKS, ("other",) + BOOKS),
    ("rounds", "book_power"): ((LONG, 3), ("book",) + BOOKS, ("n", "BadNumber", NO_NUMBERS + (0,))),
    ("rounds", "ties_after"): ((GARDEN, 60), ("garden",) + GARDENS, ("n",) + NUMBERS),
    ("rounds", "places_after"): ((GARDEN, 60), ("garden",) + GARDENS, ("n",) + NUMBERS),
    ("rounds", "ties_by"): (
        (GARDEN, 10 ** 30, 12), ("garden",) + GARDENS, ("n",) + NUMBERS, ("m", "BadModulus", NO_NUMBERS + (0, 1))),
    ("rounds", "places_by"): (
        (GARDEN, 10 ** 30, 12), ("garden",) + GARDENS, ("n",) + NUMBERS, ("m", "BadModulus", NO_NUMBERS + (0, 1))),
    ("addresses", "is_row"): ((GARDEN, (0, 1, 0)), ("garden",) + GARDENS),
    ("addresses", "row_kind"): ((GARDEN, (0, 1, 0)), ("garden",) + GARDENS, ("row",) + ROWS_OF_TIES),
    ("addresses", "row_ends"): ((GARDEN, (0, 1, 0)), ("garden",) + GARDENS, ("row",) + ROWS_OF_TIES),
    ("addresses", "is_address"): ((GARDEN, ((0,), 2)), ("garden",) + GARDENS),
    ("addresses", "degrees"): (
        (GARDEN, ((0,), 2), 5), ("garden",) + GARDENS, ("address",) + ADDRESSES, ("n", "BadNumber", NO_NUMBERS + (0,))),
    ("addresses", "rows_at"): (
        (GARDEN, ((0,), 2), 5), ("garden",) + GARDENS, ("address",) + ADDRESSES, ("n", "BadNumber", NO_NUMBERS + (0,))),
    ("addresses", "address_of"): (
        (GARDEN, 3, 4), ("garden",) + GARDENS, ("n",) + NUMBERS, ("place", "BadPlace", NO_INTEGERS + (-1, 9, 10 ** 99))),
    ("addresses", "place_of"): ((GARDEN, 3, ((0, 0), 2)), ("garden",) + GARDENS, ("n",) + NUMBERS, ("address",) + ADDRESSES),
    ("wishes", "is_wish"): ((WISH,),),
    ("wishes", "does_hold"): ((FORKED, WISH), ("web",) + WEBS, ("wish",) + WISHES),
    ("wishes", "judge_plain"): ((FORKED, ("sided",)), ("web",) + WEBS, ("wish", "BadWish", NO_WISHES + (WISH, ("even",)))),
    ("wishes", "plain_holds"): (
        (FORKED, ("sided",), ("yes", (0, 1, 1))), ("web",) + WEBS, ("wish", "BadWish", NO_WISHES + (WISH, ("even",)))),
    ("marks", "marks_row"): ((LONG, WISH, 100), ("book",) + BOOKS, ("wish",) + WISHES, ("n",) + NUMBERS),
    ("marks", "next_row"): (
        (LONG, WISH, ((((), (0, 1)), "odd"), (((0,), (1,)), "free"))), ("book",) + BOOKS, ("wish",) + WISHES, ("row",) + MARKS),
    ("marks", "holds_by"): (
        (FORKED, WISH, ((((), (0, 1)), "odd"), (((0,), (1,)), "free"))), ("start",) + WEBS, ("wish",) + WISHES, ("row",) + MARKS),
    ("calendars", "calendar"): ((GARDEN, WISH), ("garden",) + GARDENS, ("wish",) + WISHES),
    ("calendars", "holds_after"): ((GARDEN, WISH, 10 ** 30), ("garden",) + GARDENS, ("wish",) + WISHES, ("n",) + NUMBERS),
    ("calendars", "first_time"): ((GARDEN, WISH), ("garden",) + GARDENS, ("wish",) + WISHES),
    ("calendars", "judge_always"): ((GARDEN, ("sided",)), ("garden",) + GARDENS, ("wish",) + WISHES),
    ("calendars", "always_holds"): (
        ((TIE, (TIE,)), ("and", ("joined",), ("not", ("even",))), ("always", ROWS)), ("garden",) + GARDENS, ("wish",) + WISHES),
    ("calendars", "judge_minds"): (
        (GARDEN, (TIE, (ROW,)), WISH), ("one",) + GARDENS, ("other",) + GARDENS, ("wish",) + WISHES),
    ("calendars", "minds_hold"): (
        (GARDEN, (TIE, (ROW,)), ("paired",), ("apart", 2)), ("one",) + GARDENS, ("other",) + GARDENS, ("wish",) + WISHES),
    ("calendars", "judge_beneath"): (
        (GARDEN, (TIE, (ROW,)), WISH), ("one",) + GARDENS, ("other",) + GARDENS, ("wish",) + WISHES),
    ("calendars", "beneath_holds"): (
        (GARDEN, (TIE, (ROW,)), ("paired",), ("above", 2)), ("one",) + GARDENS, ("other",) + GARDENS, ("wish",) + WISHES),
    ("plans", "judge_plan"): (
        (GARDEN, ("paired",), 2), ("garden",) + GARDENS, ("wish", "BadWish", NO_WISHES + (WISH, ("even",))), ("n",) + NUMBERS),
    ("plans", "plan_holds"): (
        (GARDEN, ("paired",), 2, PLAN), ("garden",) + GARDENS, ("wish", "BadWish", NO_WISHES + (WISH, ("even",))), ("n",) + NUMBERS),
    ("plans", "unfolded"): (
        (GARDEN, ("paired",), 2, PLAN), ("garden",) + GARDENS, ("wish", "BadWish", NO_WISHES + (WISH, ("even",))), ("n",) + NUMBERS,
        ("plan", "BadPlan", NO_INTEGERS + (PLAN[1:], list(PLAN), ("none", ()), PLAN + (0,)))),
    ("hues", "hue_number"): ((FORKED,), ("web",) + WEBS),
    ("hues", "hue_number_after"): ((GARDEN, 10 ** 30), ("garden",) + GARDENS, ("n",) + NUMBERS),
    ("hues", "hue_calendar"): ((GARDEN,), ("garden",) + GARDENS),
    ("hues", "judge_enough"): ((GARDEN, 2), ("garden",) + GARDENS, ("k", "BadNumber", NO_NUMBERS + (0,))),
    ("hues", "enough_holds"): ((GARDEN, 2, ("enough", 5)), ("garden",) + GARDENS, ("k", "BadNumber", NO_NUMBERS + (0,))),
}
# Values that only some functions get, as `thing`: they may be anything, and may not be changed.
THINGS = ([[1], {"a": [2]}], {"yes": [0]}, ["always", [1]], ("plan", [1], {}), ("yes", [0, 1]), ("always", ([],)), ("none", [()]))


def plain_parts(thing):
    """Whether a result consists of integers, strings, bools, None and tuples."""
    if isinstance(thing, tuple):
        return all(plain_parts(part) for part in thing)
    return thing is None or type(thing) in (int, str, bool)


class Conventions(unittest.TestCase):
    def function(self, file, name):
        return getattr(importlib.import_module("manydeep." + file), name)

    def test_each_function_is_here(self):
        names = {(file, name) for file, functions in INTERFACE.items() for name in functions if file not in ("webs", "texts")}
        self.assertEqual(set(CALLS), names)

    def test_by_position_and_by_name(self):
        for (file, name), (right, *_) in CALLS.items():
            function = self.function(file, name)
            parameters = INTERFACE[file][name].split(" ")
            kept = copy.deepcopy(right)
            result = function(*right)
            self.assertTrue(plain_parts(result), (name, result))
            self.assertEqual(repr(function(*right)), repr(result))
            for order in itertools.permutations(list(zip(parameters, right))):
                self.assertEqual(repr(function(**dict(order))), repr(result))
            for many in range(len(right)):
                self.assertEqual(repr(function(*right[:many], **dict(list(zip(parameters, right))[many:]))), repr(result))
            self.assertEqual(repr(right), repr(kept))
            with self.assertRaises(TypeError):
                function(*right[:-1])
            with self.assertRaises(TypeError):
                function(*right, 0)

    def test_true_or_false(self):
        for (file, name), (right, *_) in CALLS.items():
            if name.startswith("is_") or name.endswith(("_holds", "_hold")) or name in ("does_hold", "holds_by", "holds_after"):
                self.assertIn(self.function(file, name)(*right), (True, False), name)
                self.assertIsInstance(self.function(file, name)(*right), bool, name)
            if INTERFACE[file][name].endswith("thing") and name != "is_wish":
                self.assertIs(self.function(file, name)(*right), True, name)

    def test_any_value_as_thing(self):
        for (file, name), (right, *_) in CALLS.items():
            if INTERFACE[file][name].endswith("thing"):
                for thing in THINGS + NO_WISHES + NO_WEBS:
                    kept = copy.deepcopy(thing)
                    # Two of these values happen to be an address and a row.
                    expected = (name, thing) in (("is_address", ((), 1)), ("is_row", (0,) * 3000))
                    self.assertIs(self.function(file, name)(*right[:-1], thing), expected, name)
                    self.assertEqual(thing, kept)

    def test_one_argument_wrong(self):
        for (file, name), (right, *refused) in CALLS.items():
            function, parameters = self.function(file, name), INTERFACE[file][name].split(" ")
            for parameter, error, things in refused:
                for thing in things:
                    told = dict(zip(parameters, right))
                    told[parameter] = copy.deepcopy(thing)
                    self.assertEqual(raised(function, **told), error_with(error, thing), (name, told))
                    self.assertEqual(raised(function, *told.values()), error_with(error, thing))
                    # The value that is told is the very one, and it stays as it was.
                    self.assertEqual(told[parameter], thing)

    def test_some_arguments_wrong(self):
        for (file, name), (right, *refused) in CALLS.items():
            function, parameters = self.function(file, name), INTERFACE[file][name].split(" ")
            for many in range(2, len(refused) + 1):
                for chosen in itertools.combinations(refused, many):
                    for turn in range(40):
                        told = dict(zip(parameters, right))
                        for at, (parameter, _, things) in enumerate(chosen):
                            told[parameter] = things[(turn * (2 * at + 1) + 7 * at) % len(things)]
                        first, error, _ = chosen[0]
                        self.assertEqual(raised(function, **told), error_with(error, told[first]), (name, told))
                        self.assertEqual(raised(function, *told.values()), error_with(error, told[first]))


def error_with(error, thing):
    return (error, {"thing": thing})


if __name__ == "__main__":
    unittest.main()
