import itertools
import random
import unittest

from manydeep.calendars import calendar, holds_after
from manydeep.told import judge_lots, keen, left, lots_hold, sure, sure_calendar
from tests.anyvalues import NO_GARDENS, NO_NUMBERS, NO_WISHES, STRANGE, TIE, raised
from tests.assorted import GARDENS, thrown_garden, thrown_wish
from tests.mutants import is_exactly, some_mutants
from tests.test_calendars import shortest_pair, told_at

LINE = ((3, ((0, 2, 0), (2, 1, 0))),)
RING = ((3, ((0, 1, 0), (0, 2, 0), (2, 1, 0))),)
DIAMOND = ((4, ((0, 2, 0), (0, 3, 0), (2, 1, 0), (3, 1, 0))),)
SHELF = ((TIE, LINE), (TIE, RING), (TIE, DIAMOND))
FACT = (("sided",), 1, True)
NO_SHELVES = STRANGE + (
    (TIE, LINE), [(TIE, LINE)], ((TIE, LINE), None), ((TIE, LINE), TIE), (None, (TIE, LINE)), ((TIE, LINE),) * 13, {0: (TIE, LINE)}, ([TIE, LINE],), (((TIE, LINE),),),
    ((TIE, LINE), (TIE, list(LINE))), SHELF + ((2, ()),), (SHELF,),
) + tuple((garden,) for garden in NO_GARDENS)
NO_FACTS = (
    None, True, 0, "", [], {}, (None,), ((),), FACT, (FACT, None), [FACT], (FACT[:2],), (FACT + (0,),), (list(FACT),), ((("sided",), 1, 1),), ((("sided",), 1, 0),),
    ((("sided",), True, True),), ((("sided",), -1, True),), ((("sided",), None, True),), ((("sided",), "1", True),), ((["sided"], 1, True),),
    ((("side",), 1, True),), ((("hues", True), 1, True),), (("sided", 1, True),), ((("sided",), 1, None),), ((("sided",), 1, "True"),), {FACT: True},
    (FACT, (("sided",), True, 1)), (FACT, FACT, (FACT,)), ((("sided",), 10 ** 99, None),), (((("sided",),), 1, True),),
)


def thrown_shelf(dice, many=None):
    return tuple(dice.choice((thrown_garden(dice, 3, 3), dice.choice(GARDENS))) for _ in range(many or dice.randint(1, 6)))


def thrown_facts(dice, shelf, many):
    """Facts, most of which fit one garden of a shelf."""
    grown = dice.choice(shelf)
    facts = []
    for _ in range(many):
        wish, n = thrown_wish(dice, 3, 2), dice.choice((0, 1, 2, 3, 7, 60, 10 ** 30))
        facts.append((wish, n, holds_after(grown, wish, n) if dice.random() < 0.9 else dice.choice((True, False))))
    return tuple(facts)


def plainly_left(shelf, facts):
    return tuple(at for at, garden in enumerate(shelf) if all(holds_after(garden, wish, n) is truth for wish, n, truth in facts))


def plainly_sure(shelf, facts, wish, n):
    answers = {holds_after(shelf[at], wish, n) for at in plainly_left(shelf, facts)}
    return answers.pop() if len(answers) == 1 else None


def plainly_keen(shelf, facts, wishes, most):
    rows = [[calendar(shelf[at], wish) for at in plainly_left(shelf, facts)] for wish in wishes]
    best = None
    for n in range(most + 1):
        for i, row in enumerate(rows):
            answers = [told_at(pair, n) for pair in row]
            halves = (answers.count(True), answers.count(False))
            if min(halves) > 0 and (best is None or max(halves) < best[0]):
                best = (max(halves), i, n)
    return best and best[1:]


def are_like(one, other, wish):
    return calendar(one, wish) == calendar(other, wish)


def is_right(shelf, wishes, thing):
    """What 15.4 says, word by word."""
    if not (isinstance(thing, tuple) and len(thing) == 3 and is_exactly(thing[0], "lots")):
        return False
    _, lots, questions = thing
    if not isinstance(lots, tuple) or not all(isinstance(lot, tuple) and lot for lot in lots):
        return False
    positions = [at for lot in lots for at in lot]
    if any(type(at) is not int for at in positions) or sorted(positions) != list(range(len(shelf))):
        return False
    if any(list(lot) != sorted(lot) for lot in lots) or [lot[0] for lot in lots] != sorted(lot[0] for lot in lots):
        return False
    for lot in lots:
        if not all(are_like(shelf[one], shelf[other], wish) for one in lot for other in lot for wish in wishes):
            return False
    pairs = list(itertools.combinations(lots, 2))
    if not isinstance(questions, tuple) or len(questions) != len(pairs):
        return False
    for (one, other), question in zip(pairs, questions):
        if not (isinstance(question, tuple) and len(question) == 2 and all(type(item) is int and item >= 0 for item in question)):
            return False
        i, n = question
        if i >= len(wishes) or any(holds_after(shelf[mine], wishes[i], n) is holds_after(shelf[others], wishes[i], n) for mine in one for others in other):
            return False
    return True


class Facts(unittest.TestCase):
    """left, sure, sure_calendar [15.1, 15.2]."""

    def test_examples(self):
        self.assertEqual(
            [left(SHELF, ()), left(SHELF, ((('sided',), 1, True),)), sure(SHELF, ((('sided',), 1, True),), ('joined',), 7),
             sure(SHELF, (), ('ringed',), 0), sure(SHELF, (), ('ringed',), 1)], [(0, 1, 2), (0, 2), True, False, None])
        self.assertEqual(
            [sure_calendar(SHELF, ((('sided',), 1, True),), ('sided',)), sure_calendar(SHELF, (), ('ringed',)),
             keen(SHELF, (), (('sided',), ('ringed',)), 5), keen(SHELF, (), (('joined',),), 5)], [((), (True,)), ((False,), (None,)), (0, 1), None])
        self.assertIs(lots_hold(SHELF, (('sided',), ('ringed',)), ('lots', ((0,), (1,), (2,)), ((0, 1), (1, 2), (0, 1)))), True)
        self.assertEqual(raised(sure, SHELF, ((('joined',), 3, False),), ('sided',), 1), ("NoneLeft", {}))

    def test_left_fact_by_fact(self):
        dice = random.Random(111)
        for _ in range(150):
            shelf = thrown_shelf(dice)
            facts = thrown_facts(dice, shelf, dice.randint(0, 4))
            self.assertEqual(left(shelf, facts), plainly_left(shelf, facts), (shelf, facts))
            self.assertEqual(left(facts=facts[::-1], shelf=shelf), plainly_left(shelf, facts))

    def test_shelves_of_one_and_of_twelve(self):
        dice = random.Random(112)
        for many in (1, 12):
            shelf = thrown_shelf(dice, many)
            self.assertEqual(left(shelf, ()), tuple(range(many)))
            facts = thrown_facts(dice, shelf, 12)
            self.assertEqual(left(shelf, facts), plainly_left(shelf, facts))
        self.assertEqual(left((SHELF[0],) * 12, ((("sided",), 5, True),)), tuple(range(12)))
        self.assertEqual(left((SHELF[0],) * 12, ((("sided",), 5, False),)), ())

    def test_facts_that_gainsay(self):
        self.assertEqual(left(SHELF, ((("sided",), 1, True), (("sided",), 1, False))), ())
        self.assertEqual(left(SHELF, ((("sided",), 0, False),)), ())
        self.assertEqual(left(SHELF, ((("sided",), 10 ** 30, False),)), (1,))

    def test_sure(self):
        dice = random.Random(113)
        seen = set()
        for _ in range(120):
            shelf = thrown_shelf(dice)
            facts = thrown_facts(dice, shelf, dice.randint(0, 3))
            wish = thrown_wish(dice, 3, 2)
            if not plainly_left(shelf, facts):
                self.assertEqual(raised(sure, shelf, facts, wish, 0), ("NoneLeft", {}))
                self.assertEqual(raised(sure_calendar, shelf, facts, wish), ("NoneLeft", {}))
                continue
            for n in (0, 1, 2, 5, 60, 10 ** 30):
                told = sure(shelf, facts, wish, n)
                self.assertIs(told, plainly_sure(shelf, facts, wish, n), (shelf, facts, wish, n))
                self.assertIs(sure(n=n, wish=wish, facts=facts, shelf=shelf), told)
                seen.add(told)
            pairs = [calendar(shelf[at], wish) for at in plainly_left(shelf, facts)]
            begin, ring = max(len(pair[0]) for pair in pairs), 1
            for pair in pairs:
                ring *= len(pair[1])
            found = sure_calendar(shelf, facts, wish)
            self.assertEqual(found, sure_calendar(wish=wish, facts=facts, shelf=shelf))
            if ring < 200:
                told = [plainly_sure(shelf, facts, wish, n) for n in range(begin + 2 * ring + 2)]
                self.assertEqual(repr(found), repr(shortest_pair(told, begin, ring)))
            for n in range(12):
                self.assertIs(told_at(found, n), plainly_sure(shelf, facts, wish, n))
        self.assertEqual(seen, {True, False, None})

    def test_wrong_arguments(self):
        for thing in NO_SHELVES:
            self.assertEqual(raised(left, thing, None), ("BadShelf", {"thing": thing}))
            self.assertEqual(raised(sure, thing, None, None, None), ("BadShelf", {"thing": thing}))
            self.assertEqual(raised(sure_calendar, thing, None, None), ("BadShelf", {"thing": thing}))
            self.assertEqual(raised(keen, thing, None, None, None), ("BadShelf", {"thing": thing}))
            self.assertEqual(raised(judge_lots, thing, None), ("BadShelf", {"thing": thing}))
            self.assertEqual(raised(lots_hold, thing, None, None), ("BadShelf", {"thing": thing}))
        for thing in NO_FACTS:
            self.assertEqual(raised(left, SHELF, thing), ("BadFacts", {"thing": thing}))
            self.assertEqual(raised(sure, SHELF, thing, None, None), ("BadFacts", {"thing": thing}))
            self.assertEqual(raised(sure_calendar, SHELF, thing, None), ("BadFacts", {"thing": thing}))
            self.assertEqual(raised(keen, SHELF, thing, None, None), ("BadFacts", {"thing": thing}))
        none = ((("joined",), 3, False),)
        for thing in NO_WISHES:
            self.assertEqual(raised(sure, SHELF, none, thing, None), ("BadWish", {"thing": thing}))
            self.assertEqual(raised(sure_calendar, SHELF, none, thing), ("BadWish", {"thing": thing}))
        for thing in NO_NUMBERS:
            self.assertEqual(raised(sure, SHELF, none, ("sided",), thing), ("BadNumber", {"thing": thing}))
        self.assertEqual(raised(sure_calendar, SHELF, none, ("sided",)), ("NoneLeft", {}))


class Questions(unittest.TestCase):
    """keen [15.3]."""

    def test_against_all_questions(self):
        dice = random.Random(114)
        found = set()
        for _ in range(120):
            shelf = thrown_shelf(dice)
            facts = thrown_facts(dice, shelf, dice.randint(0, 2))
            wishes = tuple(thrown_wish(dice, 3, 1) for _ in range(dice.randint(1, 4)))
            most = dice.choice((0, 1, 2, 6, 60))
            if not plainly_left(shelf, facts):
                self.assertEqual(raised(keen, shelf, facts, wishes, most), ("NoneLeft", {}))
                continue
            told = keen(shelf, facts, wishes, most)
            self.assertEqual(told, plainly_keen(shelf, facts, wishes, most), (shelf, facts, wishes, most))
            self.assertEqual(told, keen(most=most, wishes=wishes, facts=facts, shelf=shelf))
            found.add(told is None)
        self.assertEqual(found, {True, False})

    def test_edges(self):
        wishes = (("ringed",), ("sided",))
        self.assertEqual(keen(SHELF, (), wishes, 0), None)
        # Both questions leave two: of equal n the least i.
        self.assertEqual(keen(SHELF, (), wishes, 1), (0, 1))
        self.assertEqual(keen(SHELF, (), wishes[::-1], 60), (0, 1))
        self.assertEqual(keen(SHELF[:1], (), wishes, 60), None)
        # A later question that halves is better than an earlier one that parts off one garden.
        shelf = (((2, ((0, 1, 0),)), ((2, ((0, 1, 0), (0, 1, 0))),)), (TIE, LINE), ((3, ((0, 1, 0), (0, 2, 0), (1, 2, 0))), LINE), (TIE, RING))
        self.assertEqual(keen(shelf, (), (("sided",),), 0), (0, 0))
        self.assertEqual(keen(shelf, (), (("number", 0, 3, 1), ("number", 0, 3, 2)), 4), plainly_keen(shelf, (), (("number", 0, 3, 1), ("number", 0, 3, 2)), 4))

    def test_wrong_arguments(self):
        none = ((("joined",), 3, False),)
        for thing in (None, True, 0, "sided", [], {}, (), [("sided",)], {("sided",): 1}):
            self.assertEqual(raised(keen, SHELF, none, thing, None), ("BadWish", {"thing": thing}))
            self.assertEqual(raised(judge_lots, SHELF, thing), ("BadWish", {"thing": thing}))
            self.assertEqual(raised(lots_hold, SHELF, thing, None), ("BadWish", {"thing": thing}))
        for thing in NO_WISHES:
            for wishes in ((thing,), (("sided",), thing), (("sided",), thing, None), (thing, ("sided",), "sided")):
                self.assertEqual(raised(keen, SHELF, none, wishes, None), ("BadWish", {"thing": thing}))
                self.assertEqual(raised(judge_lots, SHELF, wishes), ("BadWish", {"thing": thing}))
                self.assertEqual(raised(lots_hold, SHELF, wishes, None), ("BadWish", {"thing": thing}))
        # A wish in the place of wishes: its first item is a word.
        self.assertEqual(raised(keen, SHELF, (), ("sided",), 0), ("BadWish", {"thing": "sided"}))
        for thing in NO_NUMBERS:
            self.assertEqual(raised(keen, SHELF, none, (("sided",),), thing), ("BadNumber", {"thing": thing}))
        self.assertEqual(raised(keen, SHELF, none, (("sided",),), 0), ("NoneLeft", {}))


class Lots(unittest.TestCase):
    """judge_lots and lots_hold [15.4]."""

    def test_what_is_judged(self):
        dice = random.Random(115)
        sizes = set()
        for _ in range(100):
            shelf = thrown_shelf(dice)
            shelf = shelf + tuple(dice.choice(shelf) for _ in range(dice.randint(0, 3)))
            wishes = tuple(thrown_wish(dice, 3, 1) for _ in range(dice.randint(1, 3)))
            told = judge_lots(shelf, wishes)
            self.assertEqual(told, judge_lots(wishes=wishes, shelf=shelf))
            self.assertTrue(is_right(shelf, wishes, told), (shelf, wishes, told))
            self.assertIs(lots_hold(shelf, wishes, told), True)
            self.assertIs(lots_hold(thing=told, wishes=wishes, shelf=shelf), True)
            sizes.add(len(told[1]))
            for thing in some_mutants(told, dice, 40):
                if not any(item in repr(thing) for item in ("99999", "00000000000")):
                    self.assertIs(lots_hold(shelf, wishes, thing), is_right(shelf, wishes, thing), (shelf, wishes, thing))
        self.assertGreater(len(sizes), 3)

    def test_all_lots(self):
        wishes = (("sided",), ("ringed",))
        shelf = SHELF + SHELF[:1]
        for lots in (((0, 3), (1,), (2,)), ((0,), (1,), (2,), (3,)), ((0, 1), (2,), (3,)), ((3, 0), (1,), (2,)), ((1,), (0, 3), (2,)), ((0, 3), (1, 2)),
                     ((0, 3), (1,), (2,), ()), ((), (0, 3), (1,), (2,)), ((0, 1, 2, 3),), (), ((0, 3), (1,)), ((0, 3), (1,), (2, 2)), ((0, 3), (1,), (2, 4)),
                     ((False, 3), (True,), (2,))):
            for questions in itertools.product(((0, 1), (1, 1), (1, 2), (0, 0)), repeat=len(lots) * (len(lots) - 1) // 2 if len(lots) < 4 else 0):
                thing = ("lots", lots, questions)
                self.assertIs(lots_hold(shelf, wishes, thing), is_right(shelf, wishes, thing), thing)
        self.assertEqual(judge_lots(shelf, wishes)[1], ((0, 3), (1,), (2,)))
        self.assertEqual(judge_lots(SHELF[:1], wishes), ("lots", ((0,),), ()))
        self.assertIs(lots_hold(SHELF, wishes, ("lots", ((0,), (1,), (2,)), ((0, 10 ** 99), (1, 1), (0, 10 ** 30)))), True)
        self.assertIs(lots_hold(SHELF, wishes, ("lots", ((0,), (1,), (2,)), ((0, 10 ** 99), (1, 0), (0, 10 ** 30)))), False)
        self.assertEqual(judge_lots((SHELF[0],) * 12, wishes), ("lots", (tuple(range(12)),), ()))

    def test_any_value(self):
        for thing in STRANGE + NO_WISHES:
            self.assertIs(lots_hold(SHELF, (("sided",), ("ringed",)), thing), False, thing)
            self.assertIs(lots_hold(SHELF[:1], (("sided",),), thing), False, thing)


if __name__ == "__main__":
    unittest.main()
