import itertools
import random
import unittest

from manydeep.calendars import (always_holds, beneath_holds, calendar, first_time, holds_after, judge_always,
                                judge_beneath, judge_minds, minds_hold)
from manydeep.marks import holds_by, marks_row, next_row
from tests import plainly
from tests.anyvalues import (BARE, FORKED, LONE, NO_GARDENS, NO_NUMBERS, NO_WISHES, ROW, STRANGE, TIE, raised)
from tests.assorted import (CHOSEN, DIAMOND, GARDENS, JOINT, LONG, PLAIN, TRIANGLE, WISHES, thrown_gardens, thrown_wish,
                            webs_of)
from tests.test_marks import few_enough, has_places_from

GARDEN = (TIE, LONG)
STILL = (TIE, (TIE,))
PAIRED = ("paired",)
# After n rounds the first kind has as many ties as the remainder of n by 3 tells.
BY_THREE = (TIE, ((2, ((0, 1, 1),)), (2, ((0, 1, 2),)), TIE))


def told_at(pair, n):
    begin, ring = pair
    return begin[n] if n < len(begin) else ring[(n - len(begin)) % len(ring)]


def truths(garden, wish, many):
    start, book = garden
    row, found = marks_row(book, wish, 0), []
    for _ in range(many):
        found.append(holds_by(start, wish, row))
        row = next_row(book, wish, row)
    return found


def shortest_pair(told, begin, ring):
    """Of all right pairs for a list of truths that goes round, the one with the shortest ring, then the shortest begin."""
    for length in range(1, ring + 1):
        for ahead in range(begin + 1):
            if all(told[n] == told[n + length] for n in range(ahead, len(told) - length)):
                return tuple(told[:ahead]), tuple(told[ahead:ahead + length])
    raise AssertionError("no pair")


def rows_until_again(garden, wish):
    """The marks rows up to the first one that stands ahead of itself, and where it stands."""
    rows = [marks_row(garden[1], wish, 0)]
    while rows.count(rows[-1]) == 1:
        rows.append(next_row(garden[1], wish, rows[-1]))
    return rows, rows.index(rows[-1])


class Calendars(unittest.TestCase):
    """calendar, holds_after, first_time [6.1]."""

    def test_examples(self):
        self.assertEqual(
            [calendar((TIE, LONG), ('sided',)), calendar((TIE, LONG), ('paired',)), holds_after((TIE, LONG), ('paired',), 10 ** 30),
             first_time((TIE, LONG), ('not', ('paired',))), first_time((TIE, LONG), ('round',))],
            [((), (True,)), ((), (True, False, True)), False, 1, None])

    def test_against_webs_that_are_grown(self):
        dice = random.Random(21)
        for garden in list(GARDENS) + thrown_gardens(150, 22, 3, 3):
            webs = webs_of(garden, 9, 10, 4)
            for wish in PLAIN + tuple(thrown_wish(dice, garden[0][0], 3) for _ in range(4)):
                if has_places_from(wish, garden[0][0]):
                    continue
                told = calendar(garden, wish)
                for n, web in enumerate(webs):
                    if few_enough(web, wish):
                        holds = plainly.holds(web, wish)
                        self.assertIs(told_at(told, n), holds, (garden, wish, n))
                        self.assertIs(holds_after(garden, wish, n), holds)
                        self.assertIs(holds_after(n=n, wish=wish, garden=garden), holds)

    def test_against_rows_of_marks(self):
        dice = random.Random(23)
        for garden in list(GARDENS) + thrown_gardens(60, 24):
            for wish in WISHES + tuple(thrown_wish(dice, 4, 4) for _ in range(3)):
                rows, back = rows_until_again(garden, wish)
                told = [holds_by(garden[0], wish, row) for row in rows[:-1]]
                ring = len(told) - back
                told += [told[back + n % ring] for n in range(2 * ring + 2)]
                pair = shortest_pair(told, back, ring)
                self.assertEqual(calendar(garden, wish), pair, (garden, wish))
                self.assertEqual(calendar(wish=wish, garden=garden), pair)
                first = told.index(True) if True in told else None
                self.assertEqual(first_time(garden, wish), first)
                self.assertEqual(first_time(wish=wish, garden=garden), first)
                for n in (0, 1, 2, 30, len(rows), 10 ** 30, 10 ** 30 - 1):
                    self.assertIs(holds_after(garden, wish, n), told_at(pair, n))

    def test_shortest_ring_and_then_shortest_begin(self):
        def count(c, m, r):
            return ("number", c, m, r)
        # The numbers of ties of the kind 0 are 1, 0, 0, 1, 0, 0, ..
        self.assertEqual(calendar(BY_THREE, count(0, 2, 1)), ((), (True, False, False)))
        self.assertEqual(calendar(BY_THREE, count(0, 2, 0)), ((), (False, True, True)))
        self.assertEqual(calendar(BY_THREE, ("or", count(0, 2, 1), count(1, 2, 1))), ((), (True, True, False)))
        both = ("or", ("or", count(0, 2, 1), count(1, 2, 1)), count(2, 2, 1))
        self.assertEqual(calendar(BY_THREE, both), ((), (True,)))
        # 1, 2, 4, 8, 4, 8, .. by 12.
        doubling = (TIE, ((2, TIE[1] * 2),))
        self.assertEqual(calendar(doubling, count(0, 12, 1)), ((True,), (False,)))
        self.assertEqual(calendar(doubling, count(0, 12, 2)), ((False, True), (False,)))
        self.assertEqual(calendar(doubling, count(0, 12, 4)), ((False,), (False, True)))
        self.assertEqual(calendar(doubling, count(0, 12, 8)), ((False, False), (False, True)))
        self.assertEqual(calendar(doubling, ("or", count(0, 12, 8), count(0, 12, 2))), ((), (False, True)))
        self.assertEqual(calendar(doubling, ("not", count(0, 12, 8))), ((True, True), (True, False)))

    def test_rings_that_are_put_together(self):
        # One wish goes round in 3, the other one in 2 rounds.
        two = ("number", 0, 3, 1)
        garden = (TIE, ((2, TIE[1] * 2),))
        self.assertEqual(calendar(garden, two), ((), (True, False)))
        seven = ("number", 0, 7, 1)
        self.assertEqual(calendar(garden, seven), ((), (True, False, False)))
        self.assertEqual(calendar(garden, ("and", two, seven)), ((), (True,) + (False,) * 5))
        self.assertEqual(calendar(garden, ("or", two, seven)), ((), (True, False, True, True, True, False)))
        eleven = ("number", 0, 11, 1)
        self.assertEqual(calendar(garden, eleven), ((), (True,) + (False,) * 9))
        told = calendar(garden, ("and", seven, eleven))
        self.assertEqual(told, ((), (True,) + (False,) * 29))
        self.assertIs(holds_after(garden, ("and", seven, eleven), 30 * 10 ** 29), True)
        self.assertIs(holds_after(garden, ("and", seven, eleven), 30 * 10 ** 29 - 10), False)

    def test_never_always_and_from_some_round_on(self):
        fast = CHOSEN["fast"]
        self.assertEqual(calendar(fast, ("joined",)), ((), (True,)))
        self.assertEqual(calendar(fast, ("not", ("joined",))), ((), (False,)))
        self.assertEqual(calendar(fast, ("far", 0, 1, 12)), ((False,) * 4, (True,)))
        self.assertEqual(calendar(fast, ("ringed",)), ((False,), (True,)))
        self.assertEqual(calendar(fast, ("apart", 0, 1, 6)), ((False,) * 3, (True,)))
        self.assertEqual(first_time(fast, ("apart", 0, 1, 6)), 3)
        self.assertEqual(calendar(CHOSEN["dead at once"], ("hues", 1)), ((False,), (True,)))
        self.assertEqual(calendar(CHOSEN["dying"], ("joined",)), ((True,), (False,)))
        self.assertEqual(first_time(CHOSEN["dying"], ("not", ("joined",))), 1)
        self.assertEqual(calendar((LONE, LONG), ("joined",)), ((), (True,)))
        self.assertEqual(calendar((BARE, LONG), ("even",)), ((), (True,)))

    def test_very_many_rounds(self):
        for n, holds in ((10 ** 30, False), (10 ** 30 - 1, True), (10 ** 30 + 1, True), (3 * 10 ** 29, True), (10 ** 99, False)):
            self.assertIs(holds_after(GARDEN, PAIRED, n), holds)

    def test_places_that_the_start_has_not(self):
        # Places that come in a later round are none of the start: so these wishes never hold.
        for wish in (("far", 0, 2, 1), ("apart", 0, 2, 1), ("far", 2, 1, 1), ("apart", 3, 2, 1)):
            self.assertEqual(calendar(GARDEN, wish), ((), (False,)))
            self.assertEqual(calendar(GARDEN, ("not", wish)), ((), (True,)))
            self.assertIs(holds_after(GARDEN, wish, 10 ** 30), False)
            self.assertIs(first_time(GARDEN, wish), None)
            self.assertEqual(judge_always(GARDEN, wish), ("fails", 0))
            self.assertIs(always_holds(GARDEN, wish, ("fails", 10 ** 30)), True)
            self.assertEqual(judge_always(GARDEN, ("not", wish))[0], "always")

    def test_wrong_arguments(self):
        for thing in NO_GARDENS:
            for function in (calendar, first_time, judge_always):
                self.assertEqual(raised(function, thing, None), ("BadGarden", {"thing": thing}))
            for function in (holds_after, always_holds):
                self.assertEqual(raised(function, thing, (), None), ("BadGarden", {"thing": thing}))
        for thing in NO_WISHES:
            for function in (calendar, first_time, judge_always):
                self.assertEqual(raised(function, GARDEN, thing), ("BadWish", {"thing": thing}))
            for function in (holds_after, always_holds):
                self.assertEqual(raised(function, GARDEN, thing, -1), ("BadWish", {"thing": thing}))
        for thing in NO_NUMBERS:
            self.assertEqual(raised(holds_after, GARDEN, PAIRED, thing), ("BadNumber", {"thing": thing}))


class Always(unittest.TestCase):
    """judge_always and always_holds [6.2]."""

    def check(self, garden, wish, thing, right):
        self.assertIs(always_holds(garden, wish, thing), right, (garden, wish, thing))
        self.assertIs(always_holds(thing=thing, wish=wish, garden=garden), right)

    def test_examples(self):
        self.assertEqual(
            [always_holds((TIE, LONG), ('paired',), ('fails', 4)), judge_always((TIE, LONG), ('sided',))[0],
             always_holds((TIE, (TIE,)), ('paired',), ('always', ((((), (0, 1)),), (((), (0, 1)),))))],
            [True, 'always', True])

    def test_what_is_judged_holds(self):
        dice = random.Random(25)
        kinds = {"always": 0, "fails": 0}
        for garden in list(GARDENS) + thrown_gardens(100, 26):
            for wish in WISHES + tuple(thrown_wish(dice, 4, 4) for _ in range(3)):
                rows, back = rows_until_again(garden, wish)
                told = [holds_by(garden[0], wish, row) for row in rows]
                found = judge_always(garden, wish)
                kinds[found[0]] += 1
                self.check(garden, wish, found, True)
                self.assertEqual(found, judge_always(wish=wish, garden=garden))
                self.assertEqual(found[0], "always" if all(told) else "fails")
                self.check(garden, wish, ("always", tuple(rows)), all(told))
                for n in range(min(len(rows) + 3, 30)):
                    fails = not told[n if n < len(rows) else back + (n - back) % (len(rows) - 1 - back)]
                    self.check(garden, wish, ("fails", n), fails)
                if found[0] == "fails":
                    # It fails ahead of the first rows that are not all unlike.
                    self.assertLess(found[1], len(rows) - 1)
        self.assertGreater(min(kinds.values()), 300)

    def test_longer_rows_than_needed(self):
        for garden, wish in ((GARDEN, ("sided",)), (GARDEN, ("or", ("sided",), PAIRED)), (STILL, PAIRED), (CHOSEN["fast"], ("joined",)),
                             (CHOSEN["fast"], ("or", ("joined",), ("far", 0, 1, 12)))):
            rows, back = rows_until_again(garden, wish)
            ring = len(rows) - 1 - back
            longer = [marks_row(garden[1], wish, n) for n in range(40)]
            for many in range(40):
                self.check(garden, wish, ("always", tuple(longer[:many])), many >= len(rows))
            self.assertGreaterEqual(ring, 1)

    def test_changed_certificates(self):
        wish = ("or", ("sided",), ("number", 0, 3, 0))
        right = judge_always(GARDEN, wish)
        self.assertEqual(right[0], "always")
        rows = right[1]
        for at in range(len(rows)):
            for changed in (rows[:at] + rows[at + 1:], rows[:at] + rows[at:at + 1] + rows[at:], rows[:at] + (list(rows[at]),) + rows[at + 1:],
                            rows[:at] + (None,) + rows[at + 1:], rows[:at] + (rows[at][::-1],) + rows[at + 1:],
                            rows[:at] + (rows[at] + rows[at][:1],) + rows[at + 1:], rows[:at] + (rows[at][:1],) + rows[at + 1:],
                            rows[:at] + (((rows[at][0][0], 2), rows[at][1]),) + rows[at + 1:]):
                right_one = changed == rows or (changed[:len(rows)] == rows and len(changed) == len(rows))
                self.check(GARDEN, wish, ("always", changed), right_one)
        self.check(GARDEN, wish, ("always", list(rows)), False)
        self.check(GARDEN, wish, ["always", rows], False)
        self.check(GARDEN, wish, ("always", rows, ()), False)
        self.check(GARDEN, wish, ("always",), False)
        self.check(GARDEN, wish, ("Always", rows), False)
        self.check(GARDEN, wish, (rows, "always"), False)
        self.check(GARDEN, wish, ("same", rows), False)

    def test_bools_are_no_integers(self):
        wish = ("or", ("joined",), ("even",))
        rows = judge_always(STILL, wish)[1]
        self.assertEqual(repr(rows), "((('one', (True, 1, 1)),), (('one', (True, 1, 1)),))")
        self.check(STILL, wish, ("always", rows), True)
        for mark in ((1, 1, 1), (True, True, 1), (True, 1, True)):
            self.check(STILL, wish, ("always", ((("one", mark),), (("one", mark),))), False)
        self.check(STILL, ("hues", 2), ("always", (((False, True),), ((False, True),))), True)
        self.check(STILL, ("hues", 2), ("always", (((0, 1),), ((0, 1),))), False)
        self.check(STILL, ("number", 0, 2, 1), ("always", ((1,), (1,))), True)
        for mark in (True, 1.0, "1", (1,)):
            self.check(STILL, ("number", 0, 2, 1), ("always", ((mark,), (mark,))), False)
        self.check(STILL, PAIRED, ("always", ((((), (0, 1)),), (((), (False, True)),))), False)

    def test_times(self):
        for thing in NO_NUMBERS + (0, 2, 3, 5, 10 ** 30 + 1):
            self.check(GARDEN, PAIRED, ("fails", thing), False)
        for thing in (1, 4, 7, 10 ** 30, 10 ** 99):
            self.check(GARDEN, PAIRED, ("fails", thing), True)
            self.check(GARDEN, PAIRED, ["fails", thing], False)
            self.check(GARDEN, PAIRED, ("fails", thing, 0), False)
            self.check(GARDEN, ("sided",), ("fails", thing), False)

    def test_other_sorts(self):
        rows = tuple(rows_until_again(GARDEN, PAIRED)[0])
        self.check(GARDEN, PAIRED, ("always", rows), False)
        self.check(GARDEN, ("not", PAIRED), ("always", rows), False)
        self.check(GARDEN, ("or", PAIRED, ("not", PAIRED)), ("always", tuple(tuple(zip(row, row)) for row in rows)), True)
        self.check(GARDEN, ("and", PAIRED, ("not", PAIRED)), ("always", tuple(tuple(zip(row, row)) for row in rows)), False)
        for thing in STRANGE + NO_GARDENS[-40:] + NO_WISHES[-40:]:
            for wish in (("sided",), PAIRED):
                self.check(GARDEN, wish, thing, False)
                self.check(GARDEN, wish, ("always", thing), False)
                if not isinstance(thing, int) or isinstance(thing, bool):
                    self.check(GARDEN, wish, ("fails", thing), False)


class TwoGardens(unittest.TestCase):
    """judge_minds, minds_hold, judge_beneath, beneath_holds [6.3]."""

    def check_minds(self, one, other, wish, thing, right):
        self.assertIs(minds_hold(one, other, wish, thing), right, (one, other, wish, thing))
        self.assertIs(minds_hold(thing=thing, wish=wish, other=other, one=one), right)

    def check_beneath(self, one, other, wish, thing, right):
        self.assertIs(beneath_holds(one, other, wish, thing), right, (one, other, wish, thing))
        self.assertIs(beneath_holds(thing=thing, wish=wish, other=other, one=one), right)

    def test_examples(self):
        self.assertEqual(
            [minds_hold((TIE, LONG), (TIE, (TIE,)), ('paired',), ('apart', 1)),
             judge_beneath((TIE, LONG), (TIE, (TIE,)), ('paired',))], [True, ('beneath',)])

    def test_against_truths_of_many_rounds(self):
        dice = random.Random(27)
        kinds = {"same": 0, "apart": 0, "beneath": 0, "above": 0}
        gardens = list(GARDENS) + thrown_gardens(60, 28)
        for _ in range(500):
            one, other = dice.choice(gardens), dice.choice(gardens)
            wish = dice.choice(PLAIN[:15] + JOINT)
            mine, others = calendar(one, wish), calendar(other, wish)
            many = max(len(mine[0]), len(others[0])) + len(mine[1]) * len(others[1])
            pairs = list(zip(truths(one, wish, min(many, 60)), truths(other, wish, min(many, 60))))
            if many > 60:
                continue
            minds, beneath = judge_minds(one, other, wish), judge_beneath(one, other, wish)
            self.assertEqual(minds, judge_minds(wish=wish, other=other, one=one))
            self.assertEqual(beneath, judge_beneath(wish=wish, other=other, one=one))
            self.check_minds(one, other, wish, minds, True)
            self.check_beneath(one, other, wish, beneath, True)
            kinds[minds[0]] += 1
            kinds[beneath[0]] += 1
            alike = all(first == second for first, second in pairs)
            self.assertEqual(minds[0], "same" if alike else "apart")
            self.check_minds(one, other, wish, ("same",) + mine, alike)
            self.check_minds(one, other, wish, ("same",) + others, alike)
            under = all(second or not first for first, second in pairs)
            self.assertEqual(beneath[0], "beneath" if under else "above")
            self.check_beneath(one, other, wish, ("beneath",), under)
            for n, (first, second) in enumerate(pairs):
                self.check_minds(one, other, wish, ("apart", n), first != second)
                self.check_beneath(one, other, wish, ("above", n), first and not second)
        self.assertGreater(min(kinds.values()), 50)

    def test_equal_gardens(self):
        for garden in GARDENS:
            for wish in PLAIN:
                self.assertEqual(judge_minds(garden, garden, wish), ("same",) + calendar(garden, wish))
                self.assertEqual(judge_beneath(garden, garden, wish), ("beneath",))

    def test_the_same_garden_one_round_further(self):
        further = (plainly.put_in(*GARDEN), LONG)
        self.assertEqual(calendar(further, PAIRED), ((), (False, True, True)))
        self.assertIn(judge_minds(GARDEN, further, PAIRED), (("apart", 0), ("apart", 1)))
        for n in range(9):
            self.check_minds(GARDEN, further, PAIRED, ("apart", n), n % 3 != 2)
            self.check_beneath(GARDEN, further, PAIRED, ("above", n), n % 3 == 0)
            self.check_beneath(further, GARDEN, PAIRED, ("above", n), n % 3 == 1)
        self.check_minds(GARDEN, further, PAIRED, ("apart", 10 ** 30), True)
        self.check_minds(GARDEN, further, PAIRED, ("apart", 10 ** 30 + 1), False)
        self.check_beneath(GARDEN, further, PAIRED, ("above", 10 ** 30 + 2), True)
        self.check_beneath(GARDEN, further, PAIRED, ("above", 10 ** 30), False)

    def test_rings_of_unlike_lengths(self):
        # One wish holds after 0, 2, 4, .. rounds, the other one after 0, 3, 6, ..
        two = (TIE, ((2, ((0, 1, 1),)), TIE))
        wish = ("number", 0, 2, 1)
        self.assertEqual([calendar(garden, wish) for garden in (two, BY_THREE)], [((), (True, False)), ((), (True, False, False))])
        for n in range(12):
            self.check_minds(two, BY_THREE, wish, ("apart", n), (n % 2 == 0) != (n % 3 == 0))
            self.check_beneath(two, BY_THREE, wish, ("above", n), n % 2 == 0 and n % 3 != 0)
        self.check_minds(two, BY_THREE, wish, ("same", (), (True, False)), False)
        self.check_minds(two, BY_THREE, wish, ("same", (), (True, False, False)), False)

    def test_changed_certificates(self):
        same = ("same", (), (True, False, True))
        self.check_minds(GARDEN, GARDEN, PAIRED, same, True)
        for thing in (("same", (), (True, False, True) * 2), ("same", (True,), (False, True, True)), ("same", (), (1, 0, 1)),
                      ("same", (), [True, False, True]), ("same", [], (True, False, True)), ["same", (), (True, False, True)],
                      ("same", (True, False, True)), ("same", ((), (True, False, True))), ("same", (), (True, False)), ("same", (), ()),
                      ("same",), ("apart",), ("apart", 0), ("beneath",), ("same", (), (True, False, True), ()), ("Same", (), (True, False, True))):
            self.check_minds(GARDEN, GARDEN, PAIRED, thing, False)
        self.check_minds(STILL, STILL, PAIRED, ("same", (), (True,)), True)
        self.check_minds(STILL, STILL, PAIRED, ("same", (True,), (True,)), False)
        self.check_minds(STILL, STILL, PAIRED, ("same", (), (1,)), False)
        for thing in NO_NUMBERS + (0, 2, 3):
            self.check_minds(GARDEN, STILL, PAIRED, ("apart", thing), False)
            self.check_beneath(STILL, GARDEN, PAIRED, ("above", thing), False)
        for thing in (("apart", 1, 1), ["apart", 1], ("Apart", 1), ("above", 1), ("fails", 1)):
            self.check_minds(GARDEN, STILL, PAIRED, thing, False)
        for thing in (("above", 1, 1), ["above", 1], ("Above", 1), ("apart", 1), ("beneath",), ("above",)):
            self.check_beneath(STILL, GARDEN, PAIRED, thing, False)
        self.check_beneath(STILL, GARDEN, PAIRED, ("above", 1), True)
        for thing in (["beneath"], ("beneath", ()), "beneath", ("above", 1), ("above", 0), ("Beneath",), (("beneath",),)):
            self.check_beneath(GARDEN, STILL, PAIRED, thing, False)
        for thing in STRANGE + NO_WISHES[-40:]:
            self.check_minds(GARDEN, GARDEN, PAIRED, thing, False)
            self.check_beneath(GARDEN, GARDEN, PAIRED, thing, False)
            self.check_minds(GARDEN, STILL, PAIRED, thing, False)
            self.check_beneath(STILL, GARDEN, PAIRED, thing, False)

    def test_wrong_arguments(self):
        for thing in NO_GARDENS:
            for function in (judge_minds, judge_beneath):
                self.assertEqual(raised(function, thing, None, None), ("BadGarden", {"thing": thing}))
                self.assertEqual(raised(function, GARDEN, thing, None), ("BadGarden", {"thing": thing}))
            for function in (minds_hold, beneath_holds):
                self.assertEqual(raised(function, thing, None, None, None), ("BadGarden", {"thing": thing}))
                self.assertEqual(raised(function, other=thing, wish=(), thing=(), one=GARDEN), ("BadGarden", {"thing": thing}))
        for thing in NO_WISHES:
            for function in (judge_minds, judge_beneath):
                self.assertEqual(raised(function, GARDEN, STILL, thing), ("BadWish", {"thing": thing}))
            for function in (minds_hold, beneath_holds):
                self.assertEqual(raised(function, GARDEN, STILL, thing, None), ("BadWish", {"thing": thing}))


if __name__ == "__main__":
    unittest.main()
