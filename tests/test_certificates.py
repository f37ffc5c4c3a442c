"""Certificates of the whole program: what is judged holds, and nothing of another sort does, whoever made it."""
import copy
import importlib
import random
import unittest

from manydeep.webs import is_book, is_garden, is_growth, is_web
from manydeep.wishes import is_wish
from manydeep.yards import Yard
from tests.anyvalues import BARE, FORKED, LONE, RING, ROW, TIE, TWICE, YARD, raised
from tests.assorted import DIAMOND, LONG, TRIANGLE
from tests.mutants import is_exactly, mutants, some_mutants
from tests.test_conventions import CALLS
from tests.test_interface import INTERFACE
from tests.test_told import SHELF
from tests.thickones import FIVE, LOZENGE, WHEEL

GARDEN, STILL, TURNING = (TIE, LONG), (TIE, (TIE,)), (FORKED, ((2, ((1, 0, 1),)), (2, ((0, 1, 0),))))
DEEP = ("or", ("and", ("far", 0, 1, 4), ("hues", 3)), ("not", ("not", ("ringed",))))
PAIRS = (
    ("wishes", "judge_plain", "plain_holds", (
        (FORKED, ("joined",)), (FORKED, ("sided",)), (TRIANGLE, ("hues", 3)), (RING, ("paired",)), (RING, ("round",)), (ROW, ("far", 0, 1, 2)), (BARE, ("round",)))),
    ("calendars", "judge_always", "always_holds", (
        (GARDEN, ("sided",)), (GARDEN, ("paired",)), (STILL, ("not", ("even",))), (TURNING, ("number", 0, 2, 1)), (GARDEN, DEEP), (GARDEN, ("or", DEEP, ("sided",))))),
    ("calendars", "judge_minds", "minds_hold", ((GARDEN, STILL, ("paired",)), (GARDEN, STILL, ("sided",)), (GARDEN, GARDEN, ("paired",)), (GARDEN, TURNING, DEEP))),
    ("calendars", "judge_beneath", "beneath_holds", ((GARDEN, STILL, ("paired",)), (STILL, GARDEN, ("paired",)), (GARDEN, TURNING, DEEP))),
    ("plans", "judge_plan", "plan_holds", ((GARDEN, ("paired",), 2), (GARDEN, ("paired",), 1), (GARDEN, ("hues", 2), 2), (GARDEN, ("hues", 1), 1), (GARDEN, ("hues", 3), 1))),
    ("hues", "judge_enough", "enough_holds", ((GARDEN, 2), (GARDEN, 1), ((TRIANGLE, (ROW,)), 3))),
    ("numbers", "judge_divided", "divided_holds", ((GARDEN, ("hues", 2), 2), (GARDEN, ("trees",), 3), (STILL, ("pairings",), 2), ((LONE, LONG), ("pairings",), 6))),
    ("speeds", "judge_speed", "speed_holds", ((GARDEN,), (STILL,), (TURNING,), ((TIE, (BARE,)),), ((TIE, ((2, ((0, 1, 0), (0, 1, 1))), (2, ((0, 1, 1),)))),))),
    ("distances", "judge_near", "near_holds", ((GARDEN, 0, 1, 2, 3), (GARDEN, 0, 1, 2, 2), (STILL, 1, 0, 0, 1), ((BARE, (TIE,)), 0, 1, 1, 1))),
    ("streams", "judge_stream", "stream_holds", ((GARDEN, 0, 1, 2, 1), (GARDEN, 0, 1, 2, 2), ((TRIANGLE, (DIAMOND,)), 0, 2, 1, 4), ((BARE, (TIE,)), 0, 1, 1, 1))),
    ("streams", "apart_ways", "are_apart_ways", ((RING, 0, 1), (TWICE, 0, 1), (BARE, 0, 1))),
    ("thick", "judge_rows", "rows_hold", (((LOZENGE, FIVE), (LOZENGE, FIVE)), ((LOZENGE,), (LOZENGE, FIVE)), ((WHEEL,), (FIVE,)))),
    ("growthwords", "judge_exchange", "exchange_holds", (((LOZENGE,), (LOZENGE, LOZENGE)), ((LOZENGE,), (FIVE,)), ((LOZENGE, LOZENGE, FIVE), (LOZENGE, FIVE)))),
    ("told", "judge_lots", "lots_hold", ((SHELF, (("sided",), ("ringed",))), (SHELF, (("joined",),)))),
)


def of_other_sorts(thing):
    """Whether some part of a value is of no sort that certificates consist of."""
    if isinstance(thing, tuple):
        return any(of_other_sorts(part) for part in thing)
    return not (thing is None or type(thing) in (int, str, bool))


def with_yards(thing):
    """A thing with a yard in the place of each of its parts, and beside each."""
    yield YARD
    if isinstance(thing, tuple):
        yield thing + (YARD,)
        for at in range(len(thing)):
            for part in with_yards(thing[at]):
                yield thing[:at] + (part,) + thing[at + 1:]


class Certificates(unittest.TestCase):
    def cases(self):
        for file, judge, holds, rows in PAIRS:
            module = importlib.import_module("manydeep." + file)
            for row in rows:
                yield getattr(module, judge), getattr(module, holds), row

    def test_each_judge_is_here(self):
        judges = {name for functions in INTERFACE.values() for name in functions if name.startswith("judge_")}
        self.assertEqual(judges | {"apart_ways"}, {judge for _, judge, _, _ in PAIRS})
        certified = {name for functions in INTERFACE.values() for name in functions if name.endswith(("_holds", "_hold")) and name != "does_hold"}
        self.assertEqual(certified | {"are_apart_ways"}, {holds for _, _, holds, _ in PAIRS})

    def test_what_is_judged_holds(self):
        for judge, holds, row in self.cases():
            told = judge(*row)
            self.assertFalse(of_other_sorts(told))
            self.assertIs(holds(*row, told), True, (judge, row, told))
            # A certificate that somebody else made is as good.
            self.assertIs(holds(*row, copy.deepcopy(told)), True)

    def test_equal_values_of_another_sort(self):
        many = 0
        for judge, holds, row in self.cases():
            told = judge(*row)
            for thing in mutants(told):
                if thing == told and not is_exactly(thing, told):
                    self.assertIs(holds(*row, thing), False, (judge, row, thing))
                    many += 1
        self.assertGreater(many, 100)

    def test_values_with_parts_of_another_sort(self):
        for judge, holds, row in self.cases():
            told = judge(*row)
            for thing in list(mutants(told)) + list(with_yards(told)):
                if of_other_sorts(thing):
                    kept = copy.deepcopy(thing)
                    self.assertIs(holds(*row, thing), False, (judge, row, thing))
                    self.assertEqual(thing, kept)

    def test_certificates_for_something_else(self):
        # All certificates, each for all questions: of one kind and form there are many, and most are wrong.
        told = [judge(*row) for judge, _, row in self.cases()]
        for judge, holds, row in self.cases():
            for thing in told:
                right = holds(*row, thing)
                self.assertIsInstance(right, bool)
                if thing and judge(*row) and thing[0] != judge(*row)[0]:
                    self.assertIs(right, False, (judge, row, thing))


class Arguments(unittest.TestCase):
    def test_mutants_of_arguments(self):
        dice = random.Random(131)
        checks = {"garden": (is_garden, "BadGarden"), "book": (is_book, "BadBook"), "web": (is_web, "BadWeb"), "growth": (is_growth, "BadGrowth"),
                  "wish": (is_wish, "BadWish")}
        for (file, name), (right, *_) in CALLS.items():
            function = getattr(importlib.import_module("manydeep." + file), name)
            parameters = INTERFACE[file][name].split(" ")
            for at, parameter in enumerate(parameters):
                if parameter in checks:
                    is_right, error = checks[parameter]
                    for thing in some_mutants(right[at], dice, 40) + list(with_yards(right[at])):
                        if not is_right(thing):
                            told = raised(function, *right[:at], copy.deepcopy(thing), *right[at + 1:])
                            self.assertEqual(told, (error, {"thing": thing}), (name, thing))

    def test_yards_are_of_no_other_kind(self):
        for is_right in (is_web, is_growth, is_book, is_garden, is_wish):
            for right in (TIE, (TIE,), (TIE, (TIE,)), ("joined",), ("not", ("hues", 3)), DEEP):
                for thing in with_yards(right):
                    self.assertIs(is_right(thing), False, thing)
                    self.assertIs(is_right([thing]), False)
                    self.assertIs(is_right({0: thing}), False)

    def test_the_very_value_is_told(self):
        yard = Yard(GARDEN)
        for (file, name), (right, *_) in CALLS.items():
            function = getattr(importlib.import_module("manydeep." + file), name)
            first = INTERFACE[file][name].split(" ")[0]
            for thing in (yard, [yard, {1: yard}], {"a": (yard,)}):
                if first not in ("thing", "text"):
                    try:
                        function(thing, *right[1:])
                    except Exception as error:
                        self.assertIs(error.thing, thing, name)
                    else:
                        self.fail(name)
        self.assertEqual((str(yard), yard.deeds()), (str(Yard(GARDEN)), 0))


if __name__ == "__main__":
    unittest.main()
