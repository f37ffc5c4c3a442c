import fractions
import itertools
import random
import unittest

from manydeep.numbers import divided_holds, is_count, judge_divided, number_by, number_marks, number_of
from tests import plainly
from tests.anyvalues import (BARE, LONE, NO_BOOKS, NO_GARDENS, NO_NUMBERS, NO_WEBS, NO_WISHES, RING, ROW, STRANGE, TIE,
                             TWICE, raised)
from tests.assorted import FULL, GARDENS, LONG, LOOSE, TRIANGLE, thrown_gardens, thrown_web, webs_of
from tests.mutants import is_exactly, mutants, some_mutants

COUNTS = (("pairings",), ("hues", 1), ("hues", 2), ("hues", 3), ("hues", 4), ("hues", 5), ("trees",))
MODULI = (2, 3, 4, 6, 12, 1000, 10 ** 6 - 17, 10 ** 6)
NO_COUNTS = NO_WISHES + (
    ("pairings", 1), ("pairings", ()), "pairings", ["pairings"], ("Pairings",), ("trees", 1), ("trees", None), ["trees"], "trees", ("tree",),
    ("hues",), ("hues", 0), ("hues", 6), ("hues", -1), ("hues", True), ("hues", "3"), ("hues", (3,)), ("hues", 3, 3), ["hues", 3],
    (("pairings",),), {"trees": 1}, ("hues", 10 ** 99), (3, "hues"), ("pairings", "trees"), (b"trees",), ("paired",), ("hues", None),
)


def pairings(web):
    """How many lots of ties have each place as an end just once, looked for place by place."""
    def further(free, ties):
        if not free:
            return 1
        return sum(further(free - {a, b}, ties) for a, b, _ in ties if min(free) in (a, b) and {a, b} <= free)
    return further(frozenset(range(web[0])), web[1])


def lots_met(web):
    """How many lots of ties meet each inner place just once and of the ends just those of each lot."""
    met = [plainly.lot_of(web, numbers) for numbers in plainly.lots_of_ties(web)]
    return tuple(met.count(lot) for lot in ((), (0,), (0, 1), (1,)))


def hued(web, k):
    return sum(1 for _ in plainly.colorings(web, k))


def hued_ends(web, k):
    ends = [hues[:2] for hues in plainly.colorings(web, k)]
    return (ends.count((0, 0)), ends.count((0, 1)))


def joining(web):
    """How many lots of ties, one fewer than places, join all places."""
    lots = itertools.combinations(web[1], web[0] - 1)
    return sum(plainly.is_joined((web[0], lot)) for lot in lots)


def parting(web):
    """How many lots of ties, two fewer than places, join each place with just one of both ends."""
    found = 0
    for lot in itertools.combinations(web[1], web[0] - 2):
        less = (web[0], lot)
        if all(bool(plainly.ways(less, place, 0)) != bool(plainly.ways(less, place, 1)) for place in range(web[0])):
            found += 1
    return found


def plain_number(web, count):
    return pairings(web) if count[0] == "pairings" else hued(web, count[1]) if count[0] == "hues" else joining(web)


def plain_mark(web, count):
    return lots_met(web) if count[0] == "pairings" else hued_ends(web, count[1]) if count[0] == "hues" else (joining(web), parting(web))


def by(numbers, m):
    return tuple(number % m for number in numbers)


def trees_by_sums(web):
    """The number of trees by the theorem of the matrix of ties."""
    rows = [[fractions.Fraction(0)] * web[0] for _ in range(web[0])]
    for a, b, _ in web[1]:
        rows[a][a] += 1
        rows[b][b] += 1
        rows[a][b] -= 1
        rows[b][a] -= 1
    rows = [row[1:] for row in rows[1:]]
    number = fractions.Fraction(1)
    while rows:
        pivot = next((row for row in rows if row[0] != 0), None)
        if pivot is None:
            return 0
        if rows.index(pivot) % 2:
            number = -number
        number *= pivot[0]
        rest = [row for at, row in enumerate(rows) if at != rows.index(pivot)]
        rows = [[mine - row[0] / pivot[0] * others for mine, others in zip(row[1:], pivot[1:])] for row in rest]
    return int(number)


class Counts(unittest.TestCase):
    """is_count and number_of [9.1]."""

    def test_examples(self):
        self.assertEqual(
            [number_of(RING, ('trees',)), number_of(RING, ('pairings',)), number_of((3, ((0, 1, 0), (0, 2, 0), (1, 2, 0))), ('hues', 3)),
             number_marks((RING,), ('trees',), 1, 100), number_by((TIE, (RING,)), ('trees',), 2, 100), judge_divided((TIE, (RING,)), ('trees',), 2)],
            [4, 2, 6, ((4, 4),), 24, ('rest', 0)])

    def test_is_count(self):
        for count in COUNTS:
            self.assertIs(is_count(count), True)
            self.assertIs(is_count(thing=count), True)
            for thing in mutants(count):
                self.assertIs(is_count(thing), any(is_exactly(thing, other) for other in COUNTS), thing)
        for thing in NO_COUNTS:
            if not (isinstance(thing, tuple) and thing[:1] == ("hues",) and any(is_exactly(thing, count) for count in COUNTS)):
                self.assertIs(is_count(thing), False, thing)

    def test_webs(self):
        for web, count, number in (
                (LONE, ("pairings",), 0), (LONE, ("hues", 5), 5), (LONE, ("trees",), 1), (BARE, ("pairings",), 0), (BARE, ("hues", 4), 16),
                (BARE, ("trees",), 0), (TIE, ("pairings",), 1), (TIE, ("hues", 1), 0), (TIE, ("hues", 2), 2), (TIE, ("trees",), 1),
                (TWICE, ("pairings",), 3), (TWICE, ("trees",), 3), (TWICE, ("hues", 3), 6), (LOOSE, ("pairings",), 1), (LOOSE, ("trees",), 0),
                (LOOSE, ("hues", 2), 4), (TRIANGLE, ("trees",), 3), (FULL, ("trees",), 7 ** 5), (FULL, ("hues", 5), 0),
                ((12, ()), ("hues", 5), 5 ** 12), ((12, ()), ("pairings",), 0), ((12, ()), ("trees",), 0), ((2, ((0, 1, 0),) * 16), ("trees",), 16),
                ((2, ((0, 1, 0),) * 16), ("pairings",), 16)):
            self.assertEqual(number_of(web, count), number, (web, count))
            self.assertEqual(number_of(count=count, web=web), number)

    def test_against_one_by_one(self):
        dice = random.Random(41)
        for _ in range(150):
            web = thrown_web(dice, dice.randint(1, 6), dice.randint(0, 8), 3)
            for count in COUNTS:
                self.assertEqual(number_of(web, count), plain_number(web, count), (web, count))

    def test_great_webs(self):
        dice = random.Random(42)
        ring = (12, tuple(sorted((place, (place + 1) % 12, 0) for place in range(12))))
        ladder = (12, tuple(sorted([(a, a + 2, 0) for a in range(10)] + [(a, a + 1, 1) for a in range(0, 12, 2)])))
        fan = (12, tuple((place, 11, 0) for place in range(11)))
        for web in [ring, ladder, fan] + [thrown_web(dice, 12, 16, 3) for _ in range(30)]:
            self.assertEqual(number_of(web, ("trees",)), trees_by_sums(web))
            self.assertEqual(number_of(web, ("pairings",)), pairings(web))
            self.assertEqual(number_of(web, ("hues", 2)), hued(web, 2))
        for k in range(1, 6):
            self.assertEqual(number_of(ring, ("hues", k)), (k - 1) ** 12 + (k - 1))
            self.assertEqual(number_of(fan, ("hues", k)), k * (k - 1) ** 11)
            self.assertEqual(number_of(ladder, ("hues", k)), k * (k - 1) * (k * k - 3 * k + 3) ** 5)

    def test_wrong_arguments(self):
        for thing in NO_WEBS:
            self.assertEqual(raised(number_of, thing, None), ("BadWeb", {"thing": thing}))
        for thing in NO_COUNTS:
            if not is_count(thing):
                self.assertEqual(raised(number_of, TIE, thing), ("BadCount", {"thing": thing}))
                self.assertEqual(raised(number_by, (TIE, LONG), thing, -1, 1), ("BadCount", {"thing": thing}))
                self.assertEqual(raised(number_marks, LONG, thing, -1, 1), ("BadCount", {"thing": thing}))


class ByRests(unittest.TestCase):
    """number_by and number_marks [9.2]."""

    def test_marks_against_pieces_that_are_grown(self):
        books = [book for _, book in GARDENS] + [book for _, book in thrown_gardens(120, 43, 4, 4)]
        for book in books:
            for kind in range(len(book)):
                for n, piece in enumerate(webs_of(((2, ((0, 1, kind),)), book), 6, 8, 3)):
                    for count in COUNTS:
                        told = plain_mark(piece, count)
                        for m in (2, 5, 10 ** 6):
                            self.assertEqual(number_marks(book, count, n, m)[kind], by(told, m), (book, count, n, kind))

    def test_numbers_against_webs_that_are_grown(self):
        for garden in list(GARDENS) + thrown_gardens(150, 44, 4, 5):
            for n, web in enumerate(webs_of(garden, 7, 10, 4)):
                for count in COUNTS:
                    told = plain_number(web, count)
                    for m in (3, 12, 10 ** 6):
                        self.assertEqual(number_by(garden, count, n, m), told % m, (garden, count, n))

    def test_trees_and_pairings_of_great_webs(self):
        for garden in list(GARDENS) + thrown_gardens(60, 45, 4, 5):
            for n, web in enumerate(webs_of(garden, 60, 90, 4)):
                trees = trees_by_sums(web)
                for m in (2, 9, 10 ** 6):
                    self.assertEqual(number_by(garden, ("trees",), n, m), trees % m, (garden, n))
                if web[0] <= 20:
                    self.assertEqual(number_by(garden, ("pairings",), n, 10 ** 6), pairings(web) % 10 ** 6, (garden, n))

    def test_after_400_rounds(self):
        doubled, row = (TIE, ((2, ((0, 1, 0), (0, 1, 0))),)), (TIE, (ROW,))
        for n in (0, 1, 2, 39, 400):
            for m in MODULI:
                self.assertEqual(number_by(doubled, ("trees",), n, m), pow(2, n, m))
                self.assertEqual(number_by(doubled, ("pairings",), n, m), pow(2, n, m))
                self.assertEqual(number_by(doubled, ("hues", 5), n, m), 20 % m)
                self.assertEqual(number_marks(doubled[1], ("trees",), n, m), ((pow(2, n, m), 1),))
                self.assertEqual(number_marks(doubled[1], ("pairings",), n, m), ((1, 0, pow(2, n, m), 0),))
                self.assertEqual(number_marks(doubled[1], ("hues", 2), n, m), ((0, 1),))
                self.assertEqual(number_marks(doubled[1], ("hues", 1), n, m), ((0, 0),))
                self.assertEqual(number_by(row, ("trees",), n, m), 1)
                self.assertEqual(number_by(row, ("pairings",), n, m), 0 if n else 1)
                self.assertEqual(number_marks(row[1], ("trees",), n, m), ((1, pow(2, n, m)),))
                for k in range(1, 6):
                    self.assertEqual(number_by(row, ("hues", k), n, m), k * pow(k - 1, 2 ** min(n, 500), m) % m)
        for garden in GARDENS:
            for count in COUNTS:
                told = number_by(garden, count, 400, 10 ** 6)
                for m in (2, 5, 64, 1000):
                    self.assertEqual(number_by(garden, count, 400, m), told % m)
                marks = number_marks(garden[1], count, 400, 10 ** 6)
                self.assertEqual(number_marks(garden[1], count, 400, 1000), tuple(by(mark, 1000) for mark in marks))

    def test_by_name(self):
        self.assertEqual(number_by(m=100, n=2, count=("trees",), garden=(TIE, (RING,))), 24)
        self.assertEqual(number_marks(m=100, n=1, count=("trees",), book=(RING,)), ((4, 4),))

    def test_wrong_arguments(self):
        for thing in NO_GARDENS:
            self.assertEqual(raised(number_by, thing, None, None, None), ("BadGarden", {"thing": thing}))
        for thing in NO_BOOKS:
            self.assertEqual(raised(number_marks, thing, None, None, None), ("BadBook", {"thing": thing}))
        for thing in NO_NUMBERS:
            for count in COUNTS:
                self.assertEqual(raised(number_by, (TIE, LONG), count, thing, None), ("BadNumber", {"thing": thing}))
                self.assertEqual(raised(number_marks, LONG, count, thing, None), ("BadNumber", {"thing": thing}))
        for thing in NO_NUMBERS + (0, 1):
            self.assertEqual(raised(number_by, (TIE, LONG), ("trees",), 3, thing), ("BadModulus", {"thing": thing}))
            self.assertEqual(raised(number_marks, LONG, ("trees",), 3, thing), ("BadModulus", {"thing": thing}))
            self.assertEqual(raised(judge_divided, (TIE, LONG), ("trees",), thing), ("BadModulus", {"thing": thing}))
            self.assertEqual(raised(divided_holds, (TIE, LONG), ("trees",), thing, None), ("BadModulus", {"thing": thing}))


class Divided(unittest.TestCase):
    """judge_divided and divided_holds [9.3]."""

    def is_right(self, garden, count, m, thing):
        """What the text says, word by word; a row is looked at up to 40 rounds."""
        if not isinstance(thing, tuple) or len(thing) != 2:
            return False
        word, rest = thing
        if word == "rest":
            right = isinstance(rest, int) and not isinstance(rest, bool) and rest >= 0
            return right and number_by(garden, count, rest if rest < 10 ** 9 else rest, m) != 0
        if word != "divided" or not isinstance(rest, tuple) or not rest:
            return False
        if any(number_by(garden, count, n, m) for n in range(len(rest))):
            return False
        right = all(is_exactly(row, number_marks(garden[1], count, n, m)) for n, row in enumerate(rest))
        return right and rest[-1] in rest[:-1]

    def gardens(self):
        small = [garden for garden in GARDENS if len(garden[1]) <= 2]
        return small + [garden for garden in thrown_gardens(90, 46, 4, 5) if len(garden[1]) <= 2]

    def test_what_is_judged(self):
        for garden in self.gardens():
            for count in COUNTS:
                for m in (2, 3, 4, 5, 6):
                    told = judge_divided(garden, count, m)
                    self.assertIs(divided_holds(garden, count, m, told), True, (garden, count, m, told))
                    self.assertTrue(self.is_right(garden, count, m, told), (garden, count, m, told))
                    zeros = all(number_by(garden, count, n, m) == 0 for n in range(60))
                    self.assertEqual(told[0], "divided" if zeros else "rest")
                    for n in range(12):
                        expected = number_by(garden, count, n, m) != 0
                        self.assertIs(divided_holds(garden, count, m, ("rest", n)), expected)
                        rows = tuple(number_marks(garden[1], count, at, m) for at in range(n))
                        thing = ("divided", rows)
                        self.assertIs(divided_holds(garden, count, m, thing), self.is_right(garden, count, m, thing))

    def test_mutants(self):
        dice = random.Random(47)
        found = set()
        for garden in self.gardens():
            for count in COUNTS:
                for m in (2, 6):
                    told = judge_divided(garden, count, m)
                    if told[0] in found and dice.random() < 0.6:
                        continue
                    found.add(told[0])
                    for thing in some_mutants(told, dice, 12):
                        expected = self.is_right(garden, count, m, thing)
                        self.assertIs(divided_holds(garden, count, m, thing), expected, (garden, count, m, thing))
        self.assertEqual(found, {"divided", "rest"})

    def test_longer_rows(self):
        garden, count = ((2, ()), ((3, ((0, 2, 0), (2, 1, 0))),)), ("trees",)
        rows = tuple(number_marks(garden[1], count, n, 6) for n in range(12))
        # By 6 the marks are (1, 2 ** n): 1, 2, 4, 2, 4, ..
        self.assertEqual(rows[:4], (((1, 1),), ((1, 2),), ((1, 4),), ((1, 2),)))
        for many in range(13):
            self.assertIs(divided_holds(garden, count, 6, ("divided", rows[:many])), many >= 4)
        self.assertIs(divided_holds(garden, count, 6, ("divided", rows[1:])), False)
        self.assertIs(divided_holds(garden, count, 6, ("divided", rows[:4] + rows[:1])), False)
        self.assertIs(divided_holds(garden, count, 6, ("rest", 0)), False)

    def test_four_hundred_rounds(self):
        garden = (TIE, ((2, ((0, 1, 0), (0, 1, 0))),))
        self.assertEqual(judge_divided(garden, ("trees",), 4), ("rest", 0))
        for n in (0, 1, 2, 400, 10 ** 99):
            self.assertIs(divided_holds(garden, ("trees",), 3, ("rest", n)), True)
            self.assertIs(divided_holds(garden, ("trees",), 4, ("rest", n)), n < 2)

    def test_any_value(self):
        for garden, count, m in (((TIE, (RING,)), ("trees",), 2), (((2, ()), LONG), ("trees",), 6), ((LONE, LONG), ("pairings",), 2)):
            for thing in STRANGE + NO_WISHES:
                self.assertIs(divided_holds(garden, count, m, thing), False, thing)

    def test_by_name(self):
        garden = (TIE, (RING,))
        self.assertEqual(judge_divided(m=2, count=("trees",), garden=garden), ("rest", 0))
        self.assertIs(divided_holds(thing=("rest", 0), m=2, count=("trees",), garden=garden), True)

    def test_wrong_arguments(self):
        for thing in NO_GARDENS:
            self.assertEqual(raised(judge_divided, thing, None, None), ("BadGarden", {"thing": thing}))
            self.assertEqual(raised(divided_holds, thing, None, None, None), ("BadGarden", {"thing": thing}))
        for thing in NO_COUNTS:
            if not is_count(thing):
                self.assertEqual(raised(judge_divided, (TIE, LONG), thing, 1), ("BadCount", {"thing": thing}))
                self.assertEqual(raised(divided_holds, (TIE, LONG), thing, 1, None), ("BadCount", {"thing": thing}))


if __name__ == "__main__":
    unittest.main()
