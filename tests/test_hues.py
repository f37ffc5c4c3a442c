import itertools
import random
import unittest

from manydeep.calendars import calendar
from manydeep.hues import enough_holds, hue_calendar, hue_number, hue_number_after, judge_enough
from tests import plainly
from tests.anyvalues import BARE, FORKED, LONE, NO_GARDENS, NO_NUMBERS, NO_WEBS, NO_WISHES, RING, ROW, STRANGE, TIE, TWICE, WIDE, raised
from tests.assorted import CHOSEN, DIAMOND, FULL, GARDENS, LONG, TRIANGLE, thrown_gardens, thrown_web, webs_of
from tests.test_calendars import shortest_pair, told_at

GARDEN = (TIE, LONG)


def full(places, first=0):
    """Ties from each one of so many places to each other one."""
    return tuple((one, other, 0) for one, other in itertools.combinations(range(first, first + places), 2))


# After a round each tie is a web of six places that all have ties to each other one, but for its ends.
THICK = (6, tuple(tie for tie in full(6) if tie[:2] != (0, 1)))
TURNING = ((5, full(5)), ((2, ((0, 1, 1),)), (2, ((0, 1, 2),)), (2, ((0, 1, 0),))))
GOING_ROUND = (
    (((), (2, 3)), ((2, ((0, 1, 1), (0, 1, 1), (1, 0, 0))), ((3, ((0, 2, 1), (2, 1, 0))), (2, ((1, 0, 1),))))),
    (((), (2, 3, 3)), ((2, ((0, 1, 0), (1, 0, 1))), ((2, ((0, 1, 1), (0, 1, 1))), (3, ((1, 2, 1), (2, 0, 0)))))),
    (((2,), (2, 3)), ((3, ((2, 1, 2),)), (BARE, (3, ((0, 1, 2), (1, 2, 2), (2, 0, 2))), (3, ((2, 0, 1),))))),
    (((2,), (3, 2, 3)), ((2, ((1, 0, 1), (1, 0, 1), (1, 0, 2))), (
        (2, ((1, 0, 2),)), TIE, (4, ((0, 2, 2), (1, 2, 0)))))),
    (((), (2, 2, 3, 3, 3, 2, 3)), ((2, ((0, 1, 0), (1, 0, 0), (1, 0, 2))), (
        (3, ((2, 0, 2), (2, 0, 2), (2, 1, 0))), (2, ((1, 0, 2),)), (3, ((0, 2, 0), (1, 2, 1)))))),
    (((2, 2, 2), (1,)), ((2, ((0, 1, 2),)), ((3, ()), TIE, (2, ((1, 0, 1),))))),
)


def least_hues(web):
    return next(k for k in itertools.count(1) if plainly.holds(web, ("hues", k)))


class HueNumbers(unittest.TestCase):
    """hue_number, hue_number_after, hue_calendar [8.1]."""

    def test_examples(self):
        self.assertEqual(
            [hue_number((3, ((0, 1, 0), (0, 2, 0), (1, 2, 0)))), hue_calendar((TIE, LONG)), hue_number_after((TIE, LONG), 10 ** 30),
             enough_holds((TIE, LONG), 2, ('enough', 5)), enough_holds((TIE, LONG), 1, ('lacks', 5))], [3, ((), (2,)), 2, True, True])

    def test_webs(self):
        for web, number in ((LONE, 1), (BARE, 1), ((14, ()), 1), (TIE, 2), (TWICE, 2), (RING, 2), (WIDE, 2), (TRIANGLE, 3), (FORKED, 2)):
            self.assertEqual(hue_number(web), number)
            self.assertEqual(hue_number(web=web), number)
        # Numbers of hues of any size.
        for places in range(2, 12):
            self.assertEqual(hue_number((places, full(places))), places)
            self.assertEqual(hue_number((14, full(places, 14 - places))), places)
        ring = (7, tuple(sorted((place, (place + 1) % 7, place % 3) for place in range(7))))
        self.assertEqual(hue_number(ring), 3)
        wheel = (8, tuple(sorted(ring[1] + tuple((7, place, 0) for place in range(7)))))
        self.assertEqual(hue_number(wheel), 4)

    def test_webs_against_a_plain_search(self):
        dice = random.Random(32)
        for _ in range(400):
            web = thrown_web(dice, dice.randint(1, 6), dice.randint(0, 15), 3)
            self.assertEqual(hue_number(web), least_hues(web), web)

    def test_against_webs_that_are_grown(self):
        for garden in list(GARDENS) + [TURNING] + thrown_gardens(250, 33):
            told = hue_calendar(garden)
            self.assertEqual(told, hue_calendar(garden=garden))
            for n, web in enumerate(webs_of(garden, 8, 20, 4)):
                self.assertEqual(told_at(told, n), least_hues(web), (garden, n))
                self.assertEqual(hue_number_after(garden, n), least_hues(web))
                self.assertEqual(hue_number_after(n=n, garden=garden), least_hues(web))

    def test_against_calendars(self):
        for start, book in list(GARDENS) + [TURNING] + thrown_gardens(150, 34, 5, 8):
            garden = (start, book)
            told = [calendar(garden, ("hues", k)) for k in range(1, 6)]
            number = hue_calendar(garden)
            begin, ring = max(len(pair[0]) for pair in told), 1
            for pair in told:
                ring *= len(pair[1])
            truths = [1 + sum(not told_at(pair, n) for pair in told) for n in range(begin + 2 * ring + 2)]
            self.assertEqual(number, shortest_pair(truths, begin, ring))
            for n in (0, 1, 7, 10 ** 30, 10 ** 30 + 1):
                self.assertEqual(hue_number_after(garden, n), 1 + sum(not told_at(pair, n) for pair in told))

    def test_calendars(self):
        self.assertEqual(hue_calendar((LONE, LONG)), ((), (1,)))
        self.assertEqual(hue_calendar(CHOSEN["dead at once"]), ((3,), (1,)))
        self.assertEqual(hue_calendar(CHOSEN["dying"]), ((), (2,)))
        self.assertEqual(hue_calendar(CHOSEN["rows"]), ((3,), (2,)))
        self.assertEqual(hue_calendar((TIE, (TRIANGLE,))), ((2,), (3,)))
        self.assertEqual(hue_calendar(((7, full(7)), (TIE,))), ((), (7,)))
        self.assertEqual(hue_calendar((FULL, (ROW,))), ((7,), (2,)))
        self.assertEqual(hue_calendar((TIE, (THICK,))), ((2,), (5,)))
        self.assertEqual(hue_calendar((TIE, ((6, full(6)),))), ((2,), (6,)))
        self.assertEqual(hue_calendar((TIE, (BARE, (6, full(6))))), ((2,), (1,)))

    def test_calendars_that_go_round(self):
        for told, garden in GOING_ROUND:
            self.assertEqual(hue_calendar(garden), told)
            webs = webs_of(garden, 8, 20, 4)
            self.assertEqual([least_hues(web) for web in webs], [told_at(told, n) for n in range(len(webs))])
            for n in (10 ** 30, 10 ** 30 + 1, 10 ** 30 + 2):
                self.assertEqual(hue_number_after(garden, n), told_at(told, n))
        self.assertEqual(hue_calendar(TURNING), ((), (5,)))

    def test_very_many_rounds(self):
        for n in (10 ** 30, 10 ** 30 - 1):
            self.assertEqual(hue_number_after(CHOSEN["rows"], n), 2)
            self.assertEqual(hue_number_after((FULL, (TIE,)), n), 7)
            self.assertEqual(hue_number_after((TIE, (THICK,)), n), 5)

    def test_wrong_arguments(self):
        for thing in NO_WEBS:
            self.assertEqual(raised(hue_number, thing), ("BadWeb", {"thing": thing}))
            self.assertEqual(raised(hue_number, web=thing), ("BadWeb", {"thing": thing}))
        for thing in NO_GARDENS:
            self.assertEqual(raised(hue_calendar, thing), ("BadGarden", {"thing": thing}))
            self.assertEqual(raised(hue_number_after, thing, None), ("BadGarden", {"thing": thing}))
        for thing in NO_NUMBERS:
            self.assertEqual(raised(hue_number_after, GARDEN, thing), ("BadNumber", {"thing": thing}))


class Enough(unittest.TestCase):
    """judge_enough and enough_holds [8.2]."""

    def check(self, garden, k, thing, right):
        self.assertIs(enough_holds(garden, k, thing), right, (garden, k, thing))
        self.assertIs(enough_holds(thing=thing, k=k, garden=garden), right)

    def test_what_is_judged_holds(self):
        for garden in list(GARDENS) + [TURNING, (FULL, (ROW,)), (TIE, (THICK,))] + [garden for _, garden in GOING_ROUND] + thrown_gardens(150, 35):
            begin, ring = hue_calendar(garden)
            told = list(begin + ring + ring)
            for k in list(range(1, 9)) + [10 ** 30]:
                found = judge_enough(garden, k)
                self.assertEqual(found, judge_enough(k=k, garden=garden))
                self.check(garden, k, found, True)
                self.assertEqual(found[0], "enough" if max(told) <= k else "lacks")
                for n, number in enumerate(told):
                    self.check(garden, k, ("enough", n), number == max(told) <= k)
                    self.check(garden, k, ("lacks", n), number > k)

    def test_chosen_ones(self):
        falling = (FULL, (ROW,))
        self.assertEqual(judge_enough(falling, 7), ("enough", 0))
        self.assertEqual(judge_enough(falling, 6), ("lacks", 0))
        for n in (1, 2, 10 ** 30):
            self.check(falling, 7, ("enough", n), False)
            self.check(falling, 6, ("lacks", n), False)
            self.check(falling, 1, ("lacks", n), True)
        rising = (TIE, (THICK,))
        for n in (1, 2, 10 ** 30, 10 ** 99):
            self.check(rising, 5, ("enough", n), True)
            self.check(rising, 9, ("enough", n), True)
            self.check(rising, 4, ("lacks", n), True)
        self.check(rising, 5, ("enough", 0), False)
        self.check(rising, 4, ("lacks", 0), False)
        self.check(rising, 1, ("lacks", 0), True)
        self.assertIs(enough_holds(rising, 5, judge_enough(rising, 5)), True)

    def test_any_value(self):
        for garden, k in ((GARDEN, 2), (GARDEN, 1), ((FULL, (ROW,)), 6), ((LONE, LONG), 1)):
            right = judge_enough(garden, k)
            word, n = right
            for thing in STRANGE + NO_WISHES[-50:] + (
                    (word,), (word, n, n), [word, n], (word, bool(n)), (word, False), (word, True), (word, -1), (word, -(10 ** 99)), (word, str(n)),
                    (word, (n,)), (word, None), (n, word), (word.title(), n), ((word, n),), {word: n}, ("always", n), ("fails", n)):
                self.check(garden, k, thing, False)
            self.check(garden, k, ("lacks" if word == "enough" else "enough", n), False)

    def test_wrong_arguments(self):
        for thing in NO_GARDENS:
            self.assertEqual(raised(judge_enough, thing, 0), ("BadGarden", {"thing": thing}))
            self.assertEqual(raised(enough_holds, thing, None, None), ("BadGarden", {"thing": thing}))
        for thing in NO_NUMBERS + (0,):
            self.assertEqual(raised(judge_enough, GARDEN, thing), ("BadNumber", {"thing": thing}))
            self.assertEqual(raised(enough_holds, GARDEN, thing, ("enough", 0)), ("BadNumber", {"thing": thing}))


if __name__ == "__main__":
    unittest.main()
