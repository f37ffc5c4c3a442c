"""What 0.2 says of all functions: names and positions, equal results, and which error of several is raised."""
import copy
import importlib
import itertools
import unittest

from manydeep.yards import Yard
from tests.anyvalues import (FORKED, NO_BOOKS, NO_GARDENS, NO_GROWTHS, NO_INTEGERS, NO_NUMBERS, NO_WEBS, NO_WISHES, ROW,
                             STRANGE, TIE, WITH_YARDS, raised)
from tests.assorted import LONG
from tests.test_interface import INTERFACE
from tests.test_numbers import NO_COUNTS
from tests.test_thick import NO_ROWS
from tests.test_told import NO_FACTS, NO_SHELVES, SHELF
from tests.thickones import FIVE, LOZENGE

GARDEN = (TIE, LONG)
WISH = ("or", ("paired",), ("not", ("sided",)))
PLAN = ("plan", ((0, 1),), (((((0, 1), ((0,), (0, 1))),), ()), ((((0,), ((0, 1), ())),), (((0, 1), ((0, 1),)),))))
ROWS = ((("one", (True, 1, 1)),),) * 2

# For each function right arguments, and what it refuses: parameter, error, values; the error of the first one is raised.
GARDENS, BOOKS, WEBS = ("BadGarden", NO_GARDENS), ("BadBook", NO_BOOKS), ("BadWeb", NO_WEBS)
WISHES, NUMBERS = ("BadWish", NO_WISHES), ("BadNumber", NO_NUMBERS)
ROWS_OF_TIES = ("BadRow", NO_INTEGERS[:4] + ((1,), (0, 2), (0, True), [0], (0, 1, 1), ()))
ADDRESSES = ("BadAddress", NO_INTEGERS + (((), 2), ((0,), 3), ((0, 1), 2), ((0,), True), [(), 0], ((), 0, 0)))
MARKS = ("BadMarks", NO_INTEGERS[:4] + ((), (("one", 1),), [("one", "odd")] * 2, ("one", "one"), ((0, 1), (0, 1))))
NO_KINDS = NO_INTEGERS + (-1, 2, 10 ** 99) + WITH_YARDS
COUNTS = ("BadCount", NO_COUNTS + WITH_YARDS)
GROWTHS, ROWS_OF_GROWTHS = ("BadGrowth", NO_GROWTHS), ("BadRow", NO_ROWS)
SHELVES, FACTS_REFUSED = ("BadShelf", NO_SHELVES), ("BadFacts", NO_FACTS + WITH_YARDS)
FACTS = ((("sided",), 1, True),)
# What is no tuple of wishes at all; of those that are tuples, the first item that is no wish is told.
NO_TUPLES = ("BadWish", tuple(thing for thing in STRANGE if not isinstance(thing, tuple)) + ((),))
CALLS = {
    ("rounds", "one_round"): ((FORKED, LONG), ("web",) + WEBS, ("book",) + BOOKS),
    ("rounds", "grown"): ((GARDEN, 3), ("garden",) + GARDENS, ("n",) + NUMBERS),
    ("rounds", "joined_book"): ((LONG, LONG), ("one",) + BOOKS, ("other",) + BOOKS),
    ("rounds", "book_power"): ((LONG, 3), ("book",) + BOOKS, ("n", "BadNumber", NO_NUMBERS + (0,))),
    ("rounds", "ties_after"): ((GARDEN, 60), ("garden",) + GARDENS, ("n",) + NUMBERS),
    ("rounds", "places_after"): ((GARDEN, 60), ("garden",) + GARDENS, ("n",) + NUMBERS),
    ("rounds", "ties_by"): (
        (GARDEN, 10 ** 30, 12), ("garden",) + GARDENS, ("n",) + NUMBERS, ("m", "BadModulus", NO_NUMBERS + (0, 1))),
    ("rounds", "places_by"): (
        (GARDEN, 10 ** 30, 12), ("garden",) + GARDENS, ("n",) + NUMBERS, ("m", "BadModulus", NO_NUMBERS + (0, 1))),
    ("addresses", "is_row"): ((GARDEN, (0, 1, 0)), ("garden",) + GARDENS),
    ("addresses", "row_kind"): ((GARDEN, (0, 1, 0)), ("garden",) + GARDENS, ("row",) + ROWS_OF_TIES),
    ("addresses", "row_ends"): ((GARDEN, (0, 1, 0)), ("garden",) + GARDENS, ("row",) + ROWS_OF_TIES),
    ("addresses", "is_address"): ((GARDEN, ((0,), 2)), ("garden",) + GARDENS),
    ("addresses", "degrees"): (
        (GARDEN, ((0,), 2), 5), ("garden",) + GARDENS, ("address",) + ADDRESSES, ("n", "BadNumber", NO_NUMBERS + (0,))),
    ("addresses", "rows_at"): (
        (GARDEN, ((0,), 2), 5), ("garden",) + GARDENS, ("address",) + ADDRESSES, ("n", "BadNumber", NO_NUMBERS + (0,))),
    ("addresses", "address_of"): (
        (GARDEN, 3, 4), ("garden",) + GARDENS, ("n",) + NUMBERS, ("place", "BadPlace", NO_INTEGERS + (-1, 9, 10 ** 99))),
    ("addresses", "place_of"): ((GARDEN, 3, ((0, 0), 2)), ("garden",) + GARDENS, ("n",) + NUMBERS, ("address",) + ADDRESSES),
    ("wishes", "is_wish"): ((WISH,),),
    ("wishes", "does_hold"): ((FORKED, WISH), ("web",) + WEBS, ("wish",) + WISHES),
    ("wishes", "judge_plain"): ((FORKED, ("sided",)), ("web",) + WEBS, ("wish", "BadWish", NO_WISHES + (WISH, ("even",)))),
    ("wishes", "plain_holds"): (
        (FORKED, ("sided",), ("yes", (0, 1, 1))), ("web",) + WEBS, ("wish", "BadWish", NO_WISHES + (WISH, ("even",)))),
    ("marks", "marks_row"): ((LONG, WISH, 100), ("book",) + BOOKS, ("wish",) + WISHES, ("n",) + NUMBERS),
    ("marks", "next_row"): (
        (LONG, WISH, ((((), (0, 1)), "odd"), (((0,), (1,)), "free"))), ("book",) + BOOKS, ("wish",) + WISHES, ("row",) + MARKS),
    ("marks", "holds_by"): (
        (FORKED, WISH, ((((), (0, 1)), "odd"), (((0,), (1,)), "free"))), ("start",) + WEBS, ("wish",) + WISHES, ("row",) + MARKS),
    ("calendars", "calendar"): ((GARDEN, WISH), ("garden",) + GARDENS, ("wish",) + WISHES),
    ("calendars", "holds_after"): ((GARDEN, WISH, 10 ** 30), ("garden",) + GARDENS, ("wish",) + WISHES, ("n",) + NUMBERS),
    ("calendars", "first_time"): ((GARDEN, WISH), ("garden",) + GARDENS, ("wish",) + WISHES),
    ("calendars", "judge_always"): ((GARDEN, ("sided",)), ("garden",) + GARDENS, ("wish",) + WISHES),
    ("calendars", "always_holds"): (
        ((TIE, (TIE,)), ("and", ("joined",), ("not", ("even",))), ("always", ROWS)), ("garden",) + GARDENS, ("wish",) + WISHES),
    ("calendars", "judge_minds"): (
        (GARDEN, (TIE, (ROW,)), WISH), ("one",) + GARDENS, ("other",) + GARDENS, ("wish",) + WISHES),
    ("calendars", "minds_hold"): (
        (GARDEN, (TIE, (ROW,)), ("paired",), ("apart", 2)), ("one",) + GARDENS, ("other",) + GARDENS, ("wish",) + WISHES),
    ("calendars", "judge_beneath"): (
        (GARDEN, (TIE, (ROW,)), WISH), ("one",) + GARDENS, ("other",) + GARDENS, ("wish",) + WISHES),
    ("calendars", "beneath_holds"): (
        (GARDEN, (TIE, (ROW,)), ("paired",), ("above", 2)), ("one",) + GARDENS, ("other",) + GARDENS, ("wish",) + WISHES),
    ("plans", "judge_plan"): (
        (GARDEN, ("paired",), 2), ("garden",) + GARDENS, ("wish", "BadWish", NO_WISHES + (WISH, ("even",))), ("n",) + NUMBERS),
    ("plans", "plan_holds"): (
        (GARDEN, ("paired",), 2, PLAN), ("garden",) + GARDENS, ("wish", "BadWish", NO_WISHES + (WISH, ("even",))), ("n",) + NUMBERS),
    ("plans", "unfolded"): (
        (GARDEN, ("paired",), 2, PLAN), ("garden",) + GARDENS, ("wish", "BadWish", NO_WISHES + (WISH, ("even",))), ("n",) + NUMBERS,
        ("plan", "BadPlan", NO_INTEGERS + (PLAN[1:], list(PLAN), ("none", ()), PLAN + (0,)))),
    ("hues", "hue_number"): ((FORKED,), ("web",) + WEBS),
    ("hues", "hue_number_after"): ((GARDEN, 10 ** 30), ("garden",) + GARDENS, ("n",) + NUMBERS),
    ("hues", "hue_calendar"): ((GARDEN,), ("garden",) + GARDENS),
    ("hues", "judge_enough"): ((GARDEN, 2), ("garden",) + GARDENS, ("k", "BadNumber", NO_NUMBERS + (0,))),
    ("hues", "enough_holds"): ((GARDEN, 2, ("enough", 5)), ("garden",) + GARDENS, ("k", "BadNumber", NO_NUMBERS + (0,))),
    ("numbers", "is_count"): ((("hues", 3),),),
    ("numbers", "number_of"): ((FORKED, ("hues", 3)), ("web",) + WEBS, ("count",) + COUNTS),
    ("numbers", "number_by"): (
        (GARDEN, ("trees",), 60, 12), ("garden",) + GARDENS, ("count",) + COUNTS, ("n",) + NUMBERS, ("m", "BadModulus", NO_NUMBERS + (0, 1))),
    ("numbers", "number_marks"): (
        (LONG, ("pairings",), 60, 12), ("book",) + BOOKS, ("count",) + COUNTS, ("n",) + NUMBERS, ("m", "BadModulus", NO_NUMBERS + (0, 1))),
    ("numbers", "judge_divided"): (
        (GARDEN, ("hues", 3), 6), ("garden",) + GARDENS, ("count",) + COUNTS, ("m", "BadModulus", NO_NUMBERS + (0, 1))),
    ("numbers", "divided_holds"): (
        (GARDEN, ("hues", 2), 2, ("divided", (((0, 1), (0, 1)), ((1, 0), (0, 1)), ((0, 1), (1, 0)), ((0, 1), (0, 1))))),
        ("garden",) + GARDENS, ("count",) + COUNTS, ("m", "BadModulus", NO_NUMBERS + (0, 1))),
    ("speeds", "kinds_of"): ((GARDEN,), ("garden",) + GARDENS),
    ("speeds", "leads"): ((LONG, 1, 0), ("book",) + BOOKS, ("c", "BadKind", NO_KINDS), ("d", "BadKind", NO_KINDS)),
    ("speeds", "judge_speed"): ((GARDEN,), ("garden",) + GARDENS),
    ("speeds", "speed_holds"): ((GARDEN, ("doubling", 0, (0, 0), (1, 0))), ("garden",) + GARDENS),
    ("distances", "end_numbers"): ((LONG, 60), ("book",) + BOOKS, ("n",) + NUMBERS),
    ("distances", "distance_after"): (
        (GARDEN, 0, 1, 60), ("garden",) + GARDENS, ("p", "BadPlace", NO_KINDS), ("q", "BadPlace", NO_KINDS), ("n",) + NUMBERS),
    ("distances", "farthest_after"): ((GARDEN, 0, 8), ("garden",) + GARDENS, ("p", "BadPlace", NO_KINDS), ("n",) + NUMBERS),
    ("distances", "judge_near"): (
        (GARDEN, 0, 1, 60, 10 ** 45), ("garden",) + GARDENS, ("p", "BadPlace", NO_KINDS), ("q", "BadPlace", NO_KINDS + (0,)), ("n",) + NUMBERS, ("d",) + NUMBERS),
    ("distances", "near_holds"): (
        (GARDEN, 0, 1, 2, 3, ("near", (((0, 1), (0,)), ((0, 1), (0,))), (0,))),
        ("garden",) + GARDENS, ("p", "BadPlace", NO_KINDS), ("q", "BadPlace", NO_KINDS + (0,)), ("n",) + NUMBERS, ("d",) + NUMBERS),
    ("distances", "distance_between"): (
        (GARDEN, 3, ((), 0), ((0,), 2)), ("garden",) + GARDENS, ("n",) + NUMBERS, ("one",) + ADDRESSES, ("other",) + ADDRESSES),
    ("distances", "next_rows"): (
        (GARDEN, 3, ((), 0), ((0,), 2)), ("garden",) + GARDENS, ("n",) + NUMBERS, ("one",) + ADDRESSES,
        ("other", "BadAddress", ADDRESSES[1] + (((), 0),))),
    ("streams", "stream_numbers"): ((LONG, 40), ("book",) + BOOKS, ("n",) + NUMBERS),
    ("streams", "stream_after"): (
        (GARDEN, 0, 1, 40), ("garden",) + GARDENS, ("p", "BadPlace", NO_KINDS), ("q", "BadPlace", NO_KINDS + (0,)), ("n",) + NUMBERS),
    ("streams", "judge_stream"): (
        (GARDEN, 0, 1, 40, 10 ** 45), ("garden",) + GARDENS, ("p", "BadPlace", NO_KINDS), ("q", "BadPlace", NO_KINDS + (0,)), ("n",) + NUMBERS,
        ("a", "BadNumber", NO_NUMBERS + (0,))),
    ("streams", "stream_holds"): (
        (GARDEN, 0, 1, 1, 2, ("cut", (((0,), (0,)),), (0,))), ("garden",) + GARDENS, ("p", "BadPlace", NO_KINDS), ("q", "BadPlace", NO_KINDS + (0,)),
        ("n",) + NUMBERS, ("a", "BadNumber", NO_NUMBERS + (0,))),
    ("streams", "stream_between"): (
        (GARDEN, 3, ((), 0), ((0,), 2)), ("garden",) + GARDENS, ("n",) + NUMBERS, ("one",) + ADDRESSES,
        ("other", "BadAddress", ADDRESSES[1] + (((), 0),))),
    ("streams", "apart_ways"): ((TIE, 0, 1), ("web",) + WEBS, ("p", "BadPlace", NO_KINDS), ("q", "BadPlace", NO_KINDS + (0,))),
    ("streams", "are_apart_ways"): ((TIE, 0, 1, ((0,),)), ("web",) + WEBS, ("p", "BadPlace", NO_KINDS), ("q", "BadPlace", NO_KINDS + (0,))),
    ("thick", "is_thick"): ((LOZENGE,), ("growth",) + GROWTHS),
    ("thick", "is_even_ended"): ((LOZENGE,), ("growth",) + GROWTHS),
    ("thick", "eye_renaming"): ((LOZENGE, LOZENGE), ("one",) + GROWTHS, ("other",) + GROWTHS),
    ("thick", "is_row"): (((LOZENGE, FIVE),),),
    ("thick", "product"): (((LOZENGE, FIVE),), ("row",) + ROWS_OF_GROWTHS),
    ("thick", "read_back"): ((LOZENGE,), ("growth",) + GROWTHS),
    ("thick", "judge_rows"): (((LOZENGE,), (FIVE,)), ("one",) + ROWS_OF_GROWTHS, ("other",) + ROWS_OF_GROWTHS),
    ("thick", "rows_hold"): (((LOZENGE,), (FIVE,), ("apart", 0)), ("one",) + ROWS_OF_GROWTHS, ("other",) + ROWS_OF_GROWTHS),
    ("growthwords", "are_equal_rows"): (((LOZENGE,), (FIVE,)), ("one",) + ROWS_OF_GROWTHS, ("other",) + ROWS_OF_GROWTHS),
    ("growthwords", "root_of"): (((LOZENGE, LOZENGE),), ("row",) + ROWS_OF_GROWTHS),
    ("growthwords", "judge_exchange"): (((LOZENGE,), (LOZENGE,) * 2), ("one",) + ROWS_OF_GROWTHS, ("other",) + ROWS_OF_GROWTHS),
    ("growthwords", "exchange_holds"): (
        ((LOZENGE,), (LOZENGE,) * 2, ("powers", (LOZENGE,), 1, 2)), ("one",) + ROWS_OF_GROWTHS, ("other",) + ROWS_OF_GROWTHS),
    ("growthwords", "fitting_row"): (((LOZENGE, FIVE), (FIVE, LOZENGE)), ("one",) + ROWS_OF_GROWTHS, ("other",) + ROWS_OF_GROWTHS),
    ("told", "left"): ((SHELF, FACTS), ("shelf",) + SHELVES, ("facts",) + FACTS_REFUSED),
    ("told", "sure"): ((SHELF, FACTS, WISH, 10 ** 30), ("shelf",) + SHELVES, ("facts",) + FACTS_REFUSED, ("wish",) + WISHES, ("n",) + NUMBERS),
    ("told", "sure_calendar"): ((SHELF, FACTS, WISH), ("shelf",) + SHELVES, ("facts",) + FACTS_REFUSED, ("wish",) + WISHES),
    ("told", "keen"): (
        (SHELF, FACTS, (WISH, ("ringed",)), 60), ("shelf",) + SHELVES, ("facts",) + FACTS_REFUSED, ("wishes",) + NO_TUPLES, ("most",) + NUMBERS),
    ("told", "judge_lots"): ((SHELF, (WISH, ("ringed",))), ("shelf",) + SHELVES, ("wishes",) + NO_TUPLES),
    ("told", "lots_hold"): (
        (SHELF, (("sided",), ("ringed",)), ("lots", ((0,), (1,), (2,)), ((0, 1), (1, 2), (0, 1)))), ("shelf",) + SHELVES, ("wishes",) + NO_TUPLES),
    ("yards", "read_yard"): (("places 2\n0 1 0\ngrowth\nplaces 2\n0 1 0\npromise sided",),),
}
# Values that only some functions get, as `thing`: they may be anything, and may not be changed.
THINGS = WITH_YARDS + ([[1], {"a": [2]}], {"yes": [0]}, ["always", [1]], ("plan", [1], {}), ("yes", [0, 1]), ("always", ([],)), ("none", [()]))


def plain_parts(thing):
    """Whether a result consists of integers, strings, bools, None and tuples."""
    if isinstance(thing, tuple):
        return all(plain_parts(part) for part in thing)
    return thing is None or type(thing) in (int, str, bool)


def shown(result):
    """What tells results apart, also True and 1."""
    return str(result) if isinstance(result, Yard) else repr(result)


class Conventions(unittest.TestCase):
    def function(self, file, name):
        return getattr(importlib.import_module("manydeep." + file), name)

    def test_each_function_is_here(self):
        names = {(file, name) for file, functions in INTERFACE.items() for name in functions if file not in ("webs", "texts")}
        self.assertEqual(set(CALLS), names)

    def test_by_position_and_by_name(self):
        for (file, name), (right, *_) in CALLS.items():
            function = self.function(file, name)
            parameters = INTERFACE[file][name].split(" ")
            kept = copy.deepcopy(right)
            result = function(*right)
            self.assertTrue(plain_parts(result) or name == "read_yard", (name, result))
            self.assertEqual(shown(function(*right)), shown(result))
            for order in itertools.permutations(list(zip(parameters, right))):
                self.assertEqual(shown(function(**dict(order))), shown(result))
            for many in range(len(right)):
                self.assertEqual(shown(function(*right[:many], **dict(list(zip(parameters, right))[many:]))), shown(result))
            self.assertEqual(repr(right), repr(kept))
            with self.assertRaises(TypeError):
                function(*right[:-1])
            with self.assertRaises(TypeError):
                function(*right, 0)

    def test_true_or_false(self):
        for (file, name), (right, *_) in CALLS.items():
            if name.startswith(("is_", "are_")) or name.endswith(("_holds", "_hold")) or name in ("does_hold", "holds_by", "holds_after", "leads"):
                self.assertIn(self.function(file, name)(*right), (True, False), name)
                self.assertIsInstance(self.function(file, name)(*right), bool, name)
            if INTERFACE[file][name].endswith("thing"):
                self.assertIs(self.function(file, name)(*right), True, name)

    def test_any_value_as_thing(self):
        for (file, name), (right, *_) in CALLS.items():
            if INTERFACE[file][name].endswith("thing"):
                for thing in THINGS + NO_WISHES + NO_WEBS:
                    kept = copy.deepcopy(thing)
                    # Two of these values happen to be an address and a row.
                    expected = (file, name, thing) in (("addresses", "is_address", ((), 1)), ("addresses", "is_row", (0,) * 3000))
                    self.assertIs(self.function(file, name)(*right[:-1], thing), expected, name)
                    self.assertEqual(thing, kept)

    def test_one_argument_wrong(self):
        for (file, name), (right, *refused) in CALLS.items():
            function, parameters = self.function(file, name), INTERFACE[file][name].split(" ")
            for parameter, error, things in refused:
                for thing in things:
                    told = dict(zip(parameters, right))
                    told[parameter] = copy.deepcopy(thing)
                    self.assertEqual(raised(function, **told), error_with(error, thing), (name, told))
                    self.assertEqual(raised(function, *told.values()), error_with(error, thing))
                    # The value that is told is the very one, and it stays as it was.
                    self.assertEqual(told[parameter], thing)

    def test_some_arguments_wrong(self):
        for (file, name), (right, *refused) in CALLS.items():
            function, parameters = self.function(file, name), INTERFACE[file][name].split(" ")
            for many in range(2, len(refused) + 1):
                for chosen in itertools.combinations(refused, many):
                    for turn in range(40):
                        told = dict(zip(parameters, right))
                        for at, (parameter, _, things) in enumerate(chosen):
                            told[parameter] = things[(turn * (2 * at + 1) + 7 * at) % len(things)]
                        first, error, _ = chosen[0]
                        self.assertEqual(raised(function, **told), error_with(error, told[first]), (name, told))
                        self.assertEqual(raised(function, *told.values()), error_with(error, told[first]))


def error_with(error, thing):
    return (error, {"thing": thing})


if __name__ == "__main__":
    unittest.main()
