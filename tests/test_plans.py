import itertools
import random
import unittest

from manydeep.marks import marks_row
from manydeep.plans import judge_plan, plan_holds, unfolded
from manydeep.rounds import grown
from manydeep.wishes import plain_holds
from tests import plainly
from tests.anyvalues import (BARE, FORKED, LONE, NO_GARDENS, NO_NUMBERS, NO_WISHES, ROW, STRANGE, TIE, TWICE, raised)
from tests.assorted import CHOSEN, DIAMOND, GARDENS, JOINT, LONG, PLAIN, TRIANGLE, thrown_gardens, webs_of
from tests.test_addresses import Plainly

GARDEN = (TIE, LONG)
PAIRED = ("paired",)
ONE, TWO = ((((0, 1), ((0,), (0, 1))),), ()), ((((0,), ((0, 1), ())),), (((0, 1), ((0, 1),)),))
PLAN = ("plan", ((0, 1),), (ONE, TWO))
WISHES = (PAIRED,) + tuple(("hues", k) for k in range(1, 6))
OTHERS = tuple(wish for wish in PLAIN + JOINT if wish[0] not in ("paired", "hues"))
LOTS = ("()", "(0,)", "(0, 1)", "(1,)")


def asked(web, choice):
    """How often each place is asked by a choice for ("paired",)."""
    times = [0] * web[0]
    for (tail, head, _), demand in zip(web[1], choice):
        times[tail] += demand.count(0)
        times[head] += demand.count(1)
    return times


def is_choice(web, wish, demand, thing):
    """Whether a value is a right choice: of a growth for a demand, of a start if this is None."""
    if not isinstance(thing, tuple):
        return False
    if wish == PAIRED:
        if len(thing) != len(web[1]) or not all(repr(item) in LOTS for item in thing):
            return False
        if demand is None:
            return asked(web, thing) == [1] * web[0]
        return asked(web, thing) == [demand.count(0), demand.count(1)] + [1] * (web[0] - 2)
    if len(thing) != web[0] or not all(repr(item) in map(str, range(wish[1])) for item in thing):
        return False
    return demand is None or thing[:2] == ((0, 0) if demand else (0, 1))


def demands(web, wish, choice):
    """A list with the pair of its kind and the demand on it for each tie."""
    if wish == PAIRED:
        return [(kind, demand) for (_, _, kind), demand in zip(web[1], choice)]
    return [(kind, choice[tail] == choice[head]) for tail, head, kind in web[1]]


def is_plan(garden, wish, n, thing):
    """Whether a value is a plan, sheet by sheet as 7.3 tells it."""
    start, book = garden
    if not isinstance(thing, tuple) or len(thing) != 3 or repr(thing[0]) != "'plan'" or not is_choice(start, wish, None, thing[1]):
        return False
    if not isinstance(thing[2], tuple) or len(thing[2]) != n:
        return False
    standing = set(demands(start, wish, thing[1]))
    for sheet in thing[2]:
        if not isinstance(sheet, tuple) or len(sheet) != len(book):
            return False
        behind = set()
        for kind, page in enumerate(sheet):
            asked_for = sorted(demand for other, demand in standing if other == kind)
            if not isinstance(page, tuple) or not all(isinstance(pair, tuple) and len(pair) == 2 for pair in page):
                return False
            if repr([pair[0] for pair in page]) != repr(asked_for):
                return False
            for demand, choice in page:
                if not is_choice(book[kind], wish, demand, choice):
                    return False
                behind |= set(demands(book[kind], wish, choice))
        standing = behind
    return not {demand for _, demand in standing} & ({(0,), (1,)} if wish == PAIRED else {True})


def unfolded_plainly(garden, wish, n, plan):
    """What a plan tells of a web that is grown with addresses in the place of places."""
    web = Plainly(garden, n)
    start, book = garden

    def told(row):
        """The kind of a row, and the demand on its tie."""
        number = row[-1]
        if len(row) == 1:
            return demands(start, wish, plan[1])[number]
        kind, demand = told(row[:-1])
        return demands(book[kind], wish, dict(plan[2][len(row) - 2][kind])[demand])[number]

    if wish == PAIRED:
        return tuple(number for number, tie in enumerate(web.ties) if told(tie[0])[1] == (0, 1))

    def ends(row):
        if len(row) == 1:
            return [((), place) for place in start[1][row[0]][:2]]
        above = ends(row[:-1])
        kind, _ = told(row[:-1])
        return [above[place] if place < 2 else (row[:-1], place) for place in book[kind][1][row[-1]][:2]]

    def hue(address):
        row, place = address
        if not row:
            return plan[1][place]
        kind, demand = told(row)
        item = dict(plan[2][len(row) - 1][kind])[demand][place]
        tail, head = [hue(end) for end in ends(row)]
        order = [tail] + [head] * (tail != head)
        return (order + sorted(set(range(wish[1])) - set(order)))[item]

    return tuple(hue(address) for address in web.places)


def changed(thing):
    """Values that come of one if a part, at any depth, is left out, doubled, exchanged or of another sort."""
    if isinstance(thing, tuple):
        yield list(thing)
        yield thing + (0,)
        yield thing + ((),)
        for at, part in enumerate(thing):
            yield thing[:at] + thing[at + 1:]
            yield thing[:at] + (part,) + thing[at:]
            for other in range(at):
                yield thing[:other] + (part,) + thing[other + 1:at] + (thing[other],) + thing[at + 1:]
            for new in changed(part):
                yield thing[:at] + (new,) + thing[at + 1:]
    elif isinstance(thing, bool):
        yield from (not thing, int(thing), None)
    elif isinstance(thing, int):
        yield from (thing + 1, thing - 1, bool(thing), str(thing), (thing,))
    else:
        yield from (None, thing + "s", (thing,))


class Plans(unittest.TestCase):
    """judge_plan and plan_holds [7.1, 7.2, 7.3]."""

    def check(self, garden, wish, n, thing, right):
        self.assertIs(plan_holds(garden, wish, n, thing), right, (garden, wish, n, thing))
        self.assertIs(plan_holds(thing=thing, n=n, wish=wish, garden=garden), right)

    def test_examples(self):
        self.assertEqual([judge_plan((TIE, LONG), ('paired',), 1)[0], plan_holds((TIE, LONG), ('paired',), 2, PLAN),
                          unfolded((TIE, LONG), ('paired',), 2, PLAN)], ['none', True, (0, 1)])

    def test_what_is_judged_holds(self):
        counts = {}
        for garden in list(GARDENS) + thrown_gardens(120, 29):
            webs = webs_of(garden, 8, 10, 4)
            for wish in WISHES:
                for n in (0, 1, 2, 3, 5, 40):
                    found = judge_plan(garden, wish, n)
                    self.assertEqual(found, judge_plan(n=n, wish=wish, garden=garden))
                    self.check(garden, wish, n, found, True)
                    counts[wish, found[0]] = counts.get((wish, found[0]), 0) + 1
                    if found[0] == "plan":
                        self.assertTrue(is_plan(garden, wish, n, found))
                    else:
                        self.assertEqual(found, ("none", tuple(marks_row(garden[1], wish, past) for past in range(n + 1))))
                    rows = tuple(marks_row(garden[1], wish, past) for past in range(n + 1))
                    self.check(garden, wish, n, ("none", rows), found[0] == "none")
                    if n < len(webs) and (wish == PAIRED or wish[1] ** webs[n][0] < 800):
                        self.assertIs(found[0] == "plan", plainly.holds(webs[n], wish), (garden, wish, n))
        for wish in WISHES:
            self.assertGreater(counts[wish, "plan"], 50)
            self.assertGreater(counts.get((wish, "none"), 0), 50 if wish in (PAIRED, ("hues", 1), ("hues", 2)) else -1)

    def test_all_first_choices(self):
        # For 0 rounds a plan is a choice alone.
        for start in (LONE, BARE, TIE, ROW, TRIANGLE, FORKED, TWICE, DIAMOND):
            garden = (start, (TIE, TIE, TIE))
            for choice in itertools.product(((), (0,), (0, 1), (1,)), repeat=len(start[1])):
                right = asked(start, choice) == [1] * start[0] and not {(0,), (1,)} & set(choice)
                self.check(garden, PAIRED, 0, ("plan", choice, ()), right)
            for k in (1, 2, 3):
                for choice in itertools.product(range(-1, k + 1), repeat=start[0]):
                    right = min(choice) >= 0 and max(choice) < k and all(choice[a] != choice[b] for a, b, _ in start[1])
                    self.check(garden, ("hues", k), 0, ("plan", choice, ()), right)

    def test_all_choices_of_a_round(self):
        lots = ((), (0,), (0, 1), (1,))
        for growth in (TIE, ROW, DIAMOND, (3, ()), (3, ((0, 1, 0), (0, 2, 0)))):
            garden = (ROW, (growth,))
            for first in (((0,), (0, 1)), ((0, 1), (1,)), ((0, 1), (0, 1))):
                if len(growth[1]) * len(set(first)) > 6:
                    continue
                for page in itertools.product(*(itertools.product(lots, repeat=len(growth[1])) for _ in set(first))):
                    thing = ("plan", first, ((tuple(zip(sorted(set(first)), page)),),))
                    self.check(garden, PAIRED, 1, thing, is_plan(garden, PAIRED, 1, thing))
            for k in (1, 2, 3):
                for choice in itertools.product(range(k), repeat=growth[0]):
                    for demand in (False, True):
                        thing = ("plan", (0, 0 if demand else k - 1, 0 if demand else k - 1, 0), ((((demand, choice),),),))
                        loose = ((4, ((0, 1, 0), (3, 2, 0))), (growth,))
                        self.check(loose, ("hues", k), 1, thing, is_plan(loose, ("hues", k), 1, thing))

    def test_changed_plans(self):
        checked = 0
        for garden, wish, n in (
                (GARDEN, PAIRED, 2), (GARDEN, PAIRED, 3), (GARDEN, ("hues", 2), 3), (CHOSEN["three"], ("hues", 3), 2), (CHOSEN["rows"], ("hues", 3), 2),
                (CHOSEN["fast"], ("hues", 4), 2), (CHOSEN["doubled ties"], ("hues", 2), 2), (CHOSEN["dead at once"], ("hues", 1), 2),
                (CHOSEN["still"], PAIRED, 3), (CHOSEN["bare"], ("hues", 1), 2), (CHOSEN["loose"], PAIRED, 2),
                ((ROW, ((4, ((0, 2, 0), (0, 3, 0), (1, 2, 0), (1, 3, 0))),)), PAIRED, 2)):
            found = judge_plan(garden, wish, n)
            for thing in changed(found):
                right = is_plan(garden, wish, n, thing) if found[0] == "plan" else repr(thing) == repr(found)
                self.check(garden, wish, n, thing, right)
                checked += right
            for other in range(5):
                self.check(garden, wish, other, found, other == n)
        self.assertGreater(checked, 30)

    def test_changed_rows_of_marks(self):
        for garden, wish, n in ((GARDEN, PAIRED, 4), (CHOSEN["rows"], PAIRED, 0), (CHOSEN["fast"], ("hues", 1), 3),
                                ((TRIANGLE, (TIE,)), ("hues", 2), 3)):
            found = judge_plan(garden, wish, n)
            self.assertEqual(found[0], "none")
            for thing in changed(found):
                self.check(garden, wish, n, thing, repr(thing) == repr(found))
            for other in range(6):
                self.check(garden, wish, other, found, other == n)

    def test_no_rounds(self):
        self.assertEqual(judge_plan(GARDEN, PAIRED, 0), ("plan", ((0, 1),), ()))
        self.assertEqual(judge_plan((ROW, LONG), PAIRED, 0), ("none", ((((), (0, 1)), ((), (0, 1))),)))
        self.assertEqual(judge_plan((LONE, LONG), ("hues", 1), 0), ("plan", (0,), ()))
        self.assertEqual(judge_plan(GARDEN, ("hues", 1), 0), ("none", (((False, False), (False, False)),)))
        self.check(GARDEN, ("hues", 3), 0, ("plan", (2, 1), ()), True)
        self.check(GARDEN, ("hues", 3), 0, ("plan", (2, 2), ()), False)

    def test_places_that_are_asked_more_than_once(self):
        garden = (TWICE, (ROW, ROW, ROW))
        tail, head, none = ((0,), ((0, 1), ())), ((1,), ((), (0, 1))), ((), ((), ()))
        for first, sheet in (
                (((0,), (0,), (1,)), ((tail,), (), (head,))), (((1,), (1,), (0,)), ((head,), (), (tail,))),
                (((0,), (0,), ()), ((tail,), (), (none,))), (((0,), (), (1,)), ((none, tail), (), (head,)))):
            self.check(garden, PAIRED, 1, ("plan", first, (sheet,)), False)
        # Each inner place is asked just once by one of its ties, or not at all.
        growth = (4, ((0, 2, 0), (1, 3, 0), (2, 3, 0)))
        for demand in ((), (0,), (0, 1), (1,)):
            start = (2, ((0, 1, 0),) + ((0, 1, 1),) * (2 - len(demand)))
            others = {(): (((0,), (1,)),), (0,): (((1,),),), (0, 1): ((),), (1,): (((0,),),)}[demand][0]
            for choice in itertools.product(((), (0,), (0, 1), (1,)), repeat=3):
                page = tuple((lot, ((0, 1), ()) if lot == (0,) else ((), (0, 1))) for lot in others)
                thing = ("plan", (demand,) + others, ((((demand, choice),), page),))
                self.check((start, (growth, ROW)), PAIRED, 1, thing, is_plan((start, (growth, ROW)), PAIRED, 1, thing))

    def test_kinds_without_a_demand(self):
        # No tie of the kind 1 is there ahead of the first round: so its page is empty.
        self.check(GARDEN, PAIRED, 2, PLAN, True)
        spare = ((((0, 1), ((0,), (0, 1))),), (((0, 1), ((0, 1),)),))
        self.check(GARDEN, PAIRED, 2, ("plan", ((0, 1),), (spare, TWO)), False)
        self.check(GARDEN, PAIRED, 2, ("plan", ((0, 1),), (ONE[:1], TWO)), False)
        self.check(GARDEN, PAIRED, 2, ("plan", ((0, 1),), (ONE, TWO[:1] + ((),))), False)
        bare = (BARE, (ROW, ROW, ROW))
        self.check(bare, ("hues", 1), 2, ("plan", (0, 0), (((), (), ()), ((), (), ()))), True)
        self.check((LONE, (TIE,)), PAIRED, 2, ("plan", (), (((),), ((),))), False)
        self.assertEqual(judge_plan((LONE, (TIE,)), PAIRED, 1)[0], "none")

    def test_one_hue(self):
        # One hue is enough once no tie is left.
        dead = CHOSEN["dead at once"]
        self.assertEqual(judge_plan(dead, ("hues", 1), 1), ("plan", (0, 0, 0), ((((True, (0, 0)),),),)))
        self.assertEqual(judge_plan(dead, ("hues", 1), 0)[0], "none")
        self.check(dead, ("hues", 1), 1, ("plan", (0, 0, 0), ((((False, (0, 1)),),),)), False)
        self.check(dead, ("hues", 2), 1, ("plan", (0, 0, 0), ((((True, (0, 0)),),),)), True)

    def test_last_demands(self):
        # The demand (0,) stands behind the last round: a single tie does not meet it.
        self.check((TIE, (ROW,)), PAIRED, 1, ("plan", ((0, 1),), ((((0, 1), ((0,), (0, 1))),),),), False)
        self.check((TIE, (ROW,)), PAIRED, 1, ("plan", ((0, 1),), (((((0, 1), ((0,), (0, 1))),),),)), False)
        self.check((TIE, (ROW,)), ("hues", 2), 1, ("plan", (0, 0), ((((True, (0, 0, 1)),),),)), True)
        self.check((TIE, (ROW,)), ("hues", 2), 1, ("plan", (0, 0), ((((True, (0, 0, 0)),),),)), False)
        self.check((TIE, (ROW,)), ("hues", 2), 1, ("plan", (1, 1), ((((True, (0, 0, 1)),),),)), True)
        self.check((TIE, (ROW,)), ("hues", 2), 1, ("plan", (0, 1), ((((False, (0, 1, 1)),),),)), False)
        self.check((TIE, (ROW,)), ("hues", 3), 1, ("plan", (0, 2), ((((False, (0, 1, 2)),),),)), True)

    def test_any_value(self):
        for garden, wish, n in ((GARDEN, PAIRED, 2), (GARDEN, PAIRED, 1), (GARDEN, ("hues", 2), 2), ((LONE, LONG), ("hues", 1), 0)):
            for thing in STRANGE + NO_GARDENS[-40:] + NO_WISHES[-40:] + (("plan",), ("none",), ("none", ()), ("plan", (), ()), ("none", None)):
                self.check(garden, wish, n, thing, False)
                self.check(garden, wish, n, ("none", thing), False)
                self.check(garden, wish, n, ("plan", thing, thing), False)

    def test_wrong_arguments(self):
        for thing in NO_GARDENS:
            self.assertEqual(raised(judge_plan, thing, None, None), ("BadGarden", {"thing": thing}))
            self.assertEqual(raised(plan_holds, thing, (), -1, None), ("BadGarden", {"thing": thing}))
            self.assertEqual(raised(unfolded, thing, (), -1, None), ("BadGarden", {"thing": thing}))
        for thing in NO_WISHES + OTHERS:
            self.assertEqual(raised(judge_plan, GARDEN, thing, 0), ("BadWish", {"thing": thing}))
            self.assertEqual(raised(plan_holds, GARDEN, thing, None, None), ("BadWish", {"thing": thing}))
            self.assertEqual(raised(unfolded, plan=None, n=None, wish=thing, garden=GARDEN), ("BadWish", {"thing": thing}))
        for thing in NO_NUMBERS:
            for wish in (PAIRED, ("hues", 5)):
                self.assertEqual(raised(judge_plan, GARDEN, wish, thing), ("BadNumber", {"thing": thing}))
                self.assertEqual(raised(plan_holds, GARDEN, wish, thing, None), ("BadNumber", {"thing": thing}))
                self.assertEqual(raised(unfolded, GARDEN, wish, thing, None), ("BadNumber", {"thing": thing}))


class Unfolded(unittest.TestCase):
    """unfolded [7.4]."""

    def check(self, garden, wish, n, plan, expected):
        self.assertEqual(unfolded(garden, wish, n, plan), expected)
        self.assertEqual(unfolded(plan=plan, n=n, wish=wish, garden=garden), expected)

    def test_against_webs_that_are_grown(self):
        checked = 0
        for garden in list(GARDENS) + thrown_gardens(120, 30):
            webs = webs_of(garden, 60, 80, 5)
            for wish in WISHES:
                for n in range(len(webs)):
                    plan = judge_plan(garden, wish, n)
                    if plan[0] == "plan":
                        expected = unfolded_plainly(garden, wish, n, plan)
                        self.check(garden, wish, n, plan, expected)
                        self.assertIs(plain_holds(grown(garden, n), wish, ("yes", expected)), True)
                        checked += 1
        self.assertGreater(checked, 1000)

    def test_each_of_many_plans(self):
        # Plans by chance, not only those that are judged.
        dice, checked = random.Random(31), 0
        garden = (TRIANGLE, (DIAMOND,))
        for _ in range(300):
            k = dice.randint(3, 5)
            first = tuple(dice.choice(range(k)) for _ in range(3))
            sheets = []
            for _ in range(2):
                page = [(False, (0, 1, dice.randrange(k), dice.randrange(k))), (True, (0, 0, dice.randrange(k), dice.randrange(k)))]
                sheets.append((tuple(page),))
            for thing in (("plan", first, tuple(sheets)), ("plan", first, (((sheets[0][0][0],),), sheets[1])),
                          ("plan", first, (((sheets[0][0][0],),), ((sheets[1][0][0],),)))):
                if is_plan(garden, ("hues", k), 2, thing):
                    self.check(garden, ("hues", k), 2, thing, unfolded_plainly(garden, ("hues", k), 2, thing))
                    self.assertIs(plain_holds(grown(garden, 2), ("hues", k), ("yes", unfolded(garden, ("hues", k), 2, thing))), True)
                    checked += 1
                else:
                    self.assertEqual(raised(unfolded, garden, ("hues", k), 2, thing), ("BadPlan", {"thing": thing}))
        self.assertGreater(checked, 20)

    def test_which_hue_an_item_stands_for(self):
        growth = (7, ())
        # With unlike ends 0 stands for the tail's hue, 1 for the head's one, and 2, 3, 4 for the others ascending.
        plan = ("plan", (3, 1), ((((False, (0, 1, 0, 1, 2, 3, 4)),),),))
        self.check((TIE, (growth,)), ("hues", 5), 1, plan, (3, 1, 3, 1, 0, 2, 4))
        self.check(((2, ((1, 0, 0),)), (growth,)), ("hues", 5), 1, plan, (3, 1, 1, 3, 0, 2, 4))
        # With equal ends 0 stands for their hue, and 1, 2, 3, 4 for the others ascending.
        plan = ("plan", (3, 3), ((((True, (0, 0, 0, 1, 2, 3, 4)),),),))
        self.check((TIE, (growth,)), ("hues", 5), 1, plan, (3, 3, 3, 0, 1, 2, 4))
        plan = ("plan", (0, 0), ((((True, (0, 0, 4, 3, 2, 1, 0)),),),))
        self.check((TIE, (growth,)), ("hues", 5), 1, plan, (0, 0, 4, 3, 2, 1, 0))

    def test_numbers_of_ties_that_are_equal(self):
        # The start's second tie gives the first tie behind the round, the pairing takes that one.
        garden = ((2, ((0, 1, 0), (1, 0, 1))), ((2, ((0, 1, 0), (1, 0, 0))), (2, ((0, 1, 0), (1, 0, 0)))))
        self.assertEqual(grown(garden, 1), (2, ((0, 1, 0), (0, 1, 0), (1, 0, 0), (1, 0, 0))))
        for first, page, numbers in (
                (((0, 1), ()), ((((0, 1), ((0, 1), ())),), (((), ((), ())),)), (0,)),
                (((0, 1), ()), ((((0, 1), ((), (0, 1))),), (((), ((), ())),)), (2,)),
                (((), (0, 1)), ((((), ((), ())),), (((0, 1), ((0, 1), ())),)), (3,)),
                (((), (0, 1)), ((((), ((), ())),), (((0, 1), ((), (0, 1))),)), (1,))):
            self.check(garden, PAIRED, 1, ("plan", first, (page,)), numbers)

    def test_no_rounds(self):
        self.check((TWICE, (TIE, TIE, TIE)), PAIRED, 0, ("plan", ((), (0, 1), ()), ()), (1,))
        self.check((TWICE, (TIE, TIE, TIE)), ("hues", 4), 0, ("plan", (3, 1), ()), (3, 1))
        self.check((LONE, (TIE,)), ("hues", 2), 0, ("plan", (1,), ()), (1,))

    def test_many_rounds(self):
        plan = judge_plan(CHOSEN["still"], PAIRED, 40)
        self.check(CHOSEN["still"], PAIRED, 40, plan, (0,))
        slow = CHOSEN["slow with places"]
        plan = judge_plan(slow, ("hues", 2), 40)
        hues = unfolded(slow, ("hues", 2), 40, plan)
        self.assertEqual(hues, (hues[0],) + (1 - hues[0],) * 41)
        plan = judge_plan(CHOSEN["turning"], ("hues", 3), 40)
        self.check(CHOSEN["turning"], ("hues", 3), 40, plan, plan[1])

    def test_too_many(self):
        fast = CHOSEN["fast"]
        plan = judge_plan(fast, ("hues", 2), 5)
        self.assertEqual(raised(unfolded, fast, ("hues", 2), 5, plan), ("TooMany", {"most": 400}))
        self.assertEqual(raised(unfolded, fast, ("hues", 2), 5, None), ("BadPlan", {"thing": None}))
        doubling = (TIE, ((2, TIE[1] * 2),))
        plan = judge_plan(doubling, PAIRED, 40)
        self.assertEqual(raised(unfolded, doubling, PAIRED, 40, plan), ("TooMany", {"most": 600}))
        plan = judge_plan(fast, ("hues", 2), 4)
        self.assertIs(plain_holds(grown(fast, 4), ("hues", 2), ("yes", unfolded(fast, ("hues", 2), 4, plan))), True)

    def test_no_plans(self):
        for thing in STRANGE + (judge_plan(GARDEN, PAIRED, 1), judge_plan(GARDEN, PAIRED, 3), PLAN[1:], list(PLAN), ("plan",), ("none", ())):
            self.assertEqual(raised(unfolded, GARDEN, PAIRED, 2, thing), ("BadPlan", {"thing": thing}))
            self.assertEqual(raised(unfolded, plan=thing, n=2, wish=PAIRED, garden=GARDEN), ("BadPlan", {"thing": thing}))
        for thing in changed(PLAN):
            if not is_plan(GARDEN, PAIRED, 2, thing):
                self.assertEqual(raised(unfolded, GARDEN, PAIRED, 2, thing), ("BadPlan", {"thing": thing}))
        rows = judge_plan(GARDEN, PAIRED, 1)
        self.assertEqual(rows[0], "none")
        self.assertEqual(raised(unfolded, GARDEN, PAIRED, 1, rows), ("BadPlan", {"thing": rows}))


if __name__ == "__main__":
    unittest.main()
