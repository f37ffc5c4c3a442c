import collections
import itertools
import random
import unittest

from manydeep.addresses import address_of
from manydeep.streams import (apart_ways, are_apart_ways, judge_stream, stream_after, stream_between, stream_holds,
                              stream_numbers)
from tests import plainly
from tests.anyvalues import (BARE, LONE, NO_BOOKS, NO_GARDENS, NO_INTEGERS, NO_NUMBERS, NO_WEBS, NO_WISHES, STRANGE,
                             TIE, TWICE, WIDE, raised)
from tests.assorted import DIAMOND, GARDENS, LOOSE, TRIANGLE, thrown_gardens, thrown_web
from tests.mutants import is_exactly, some_mutants
from tests.test_distances import is_integer, is_plain_way, webs_grown

THICKER = ((2, ((0, 1, 0), (0, 1, 0), (0, 1, 1))), (3, ((0, 2, 0), (2, 1, 1))))
GARDEN = (TIE, THICKER)
NO_PLACES = NO_INTEGERS + (-1, 2, 10 ** 99)


def apart(web, p, q):
    """How many ways apart there are, found one by one, each time turning round what stands in the way."""
    open_to = collections.defaultdict(collections.Counter)
    for a, b, _ in web[1]:
        open_to[a][b] += 1
        open_to[b][a] += 1
    many = 0
    while True:
        came, waiting = {p: p}, [p]
        while waiting and q not in came:
            place = waiting.pop()
            for other in open_to[place]:
                if open_to[place][other] > 0 and other not in came:
                    came[other] = place
                    waiting.append(other)
        if q not in came:
            return many
        many += 1
        place = q
        while place != p:
            open_to[came[place]][place] -= 1
            open_to[place][came[place]] += 1
            place = came[place]


def least_cut(web, p, q):
    """The least number of ties with just one end in a lot of places that has p and not q; all lots are tried."""
    rest = [place for place in range(web[0]) if place not in (p, q)]
    lots = [{p, *lot} for many in range(len(rest) + 1) for lot in itertools.combinations(rest, many)]
    return min(sum((a in lot) != (b in lot) for a, b, _ in web[1]) for lot in lots)


def out_of(web, flow, place):
    return sum(run for run, tie in zip(flow, web[1]) if tie[0] == place) - sum(run for run, tie in zip(flow, web[1]) if tie[1] == place)


def is_plain_flow(web, p, q, rooms, thing):
    if not (isinstance(thing, tuple) and len(thing) == len(web[1]) and all(is_integer(run) for run in thing)):
        return False
    if any(not -rooms[tie[2]] <= run <= rooms[tie[2]] for run, tie in zip(thing, web[1])):
        return False
    return all(out_of(web, thing, place) == 0 for place in range(web[0]) if place not in (p, q))


def is_stream(garden, p, q, n, a, thing):
    """What 12.3 says of certificates ("stream", tables, flow), word by word."""
    start, book = garden
    if not (isinstance(thing, tuple) and len(thing) == 3 and is_exactly(thing[0], "stream")):
        return False
    if not isinstance(thing[1], tuple) or len(thing[1]) != n:
        return False
    rooms = [1] * len(book)
    for table in thing[1]:
        if not isinstance(table, tuple) or len(table) != len(book):
            return False
        if not all(is_plain_flow(growth, 0, 1, rooms, item) for growth, item in zip(book, table)):
            return False
        rooms = [out_of(growth, item, 0) for growth, item in zip(book, table)]
        if min(rooms) < 0:
            return False
    return is_plain_flow(start, p, q, rooms, thing[2]) and out_of(start, thing[2], p) >= a


def is_plain_lot(web, p, q, thing):
    if not (isinstance(thing, tuple) and all(is_integer(place) and 0 <= place < web[0] for place in thing)):
        return False
    return thing == tuple(sorted(set(thing))) and p in thing and q not in thing


def is_cut(garden, p, q, n, a, thing):
    """What 12.3 says of certificates ("cut", tables, lot), word by word."""
    start, book = garden
    if not (isinstance(thing, tuple) and len(thing) == 3 and is_exactly(thing[0], "cut")):
        return False
    if not isinstance(thing[1], tuple) or len(thing[1]) != n:
        return False
    costs = [1] * len(book)
    for table in thing[1]:
        if not isinstance(table, tuple) or len(table) != len(book):
            return False
        if not all(is_plain_lot(growth, 0, 1, item) for growth, item in zip(book, table)):
            return False
        costs = [sum(costs[c] for x, y, c in growth[1] if (x in item) != (y in item)) for growth, item in zip(book, table)]
    return is_plain_lot(start, p, q, thing[2]) and sum(costs[c] for x, y, c in start[1] if (x in thing[2]) != (y in thing[2])) < a


class Ways(unittest.TestCase):
    """apart_ways and are_apart_ways [12.1]."""

    def is_right(self, web, p, q, thing):
        if not isinstance(thing, tuple) or not all(is_plain_way(web, p, q, way) for way in thing):
            return False
        numbers = [number for way in thing for number in way]
        return len(numbers) == len(set(numbers)) and len(thing) == least_cut(web, p, q)

    def test_examples(self):
        self.assertEqual(
            [stream_numbers(THICKER, 1), stream_numbers(THICKER, 3), stream_after((TIE, THICKER), 0, 1, 40),
             stream_between((TIE, THICKER), 2, ((), 0), ((0, 2), 2))], [(3, 1), (15, 1), 2199023255551, 2])
        self.assertEqual(
            [stream_holds((TIE, THICKER), 0, 1, 1, 3, ('stream', (((1, 1, 1), (1, 1)),), (3,))),
             stream_holds((TIE, THICKER), 0, 1, 1, 4, ('cut', (((0,), (0,)),), (0,))), len(apart_ways((3, ((0, 1, 0), (0, 2, 0), (1, 2, 0))), 0, 2)),
             are_apart_ways((3, ((0, 1, 0), (0, 2, 0), (1, 2, 0))), 0, 2, ((0, 2), (1,)))], [True, True, 2, True])
        self.assertEqual(raised(stream_after, (TIE, THICKER), 1, 1, 2), ("BadPlace", {"thing": 1}))

    def test_against_all_ways(self):
        dice = random.Random(71)
        for _ in range(300):
            web = thrown_web(dice, dice.randint(2, 6), dice.randint(0, 9), 3)
            p, q = dice.sample(range(web[0]), 2)
            told = apart_ways(web, p, q)
            self.assertEqual(told, apart_ways(q=q, p=p, web=web))
            self.assertTrue(self.is_right(web, p, q, told), (web, p, q, told))
            self.assertEqual(len(told), plainly.most_apart(plainly.ways(web, p, q)))
            self.assertEqual(len(told), apart(web, p, q))
            self.assertIs(are_apart_ways(web, p, q, told), True)
            self.assertIs(are_apart_ways(thing=told[::-1], q=q, p=p, web=web), True)
            for thing in some_mutants(told, dice, 25):
                self.assertIs(are_apart_ways(web, p, q, thing), self.is_right(web, p, q, thing), (web, p, q, thing))
            found = plainly.ways(web, p, q)
            for _ in range(10):
                thing = tuple(dice.sample(found, min(len(told), len(found))))
                self.assertIs(are_apart_ways(web, p, q, thing), self.is_right(web, p, q, thing))

    def test_great_webs(self):
        dice = random.Random(72)
        for _ in range(60):
            web = thrown_web(dice, 14, 24, 3)
            p, q = dice.sample(range(14), 2)
            told = apart_ways(web, p, q)
            self.assertEqual(len(told), apart(web, p, q))
            self.assertIs(are_apart_ways(web, p, q, told), True)
            self.assertTrue(all(way in plainly.ways(web, p, q) for way in told))
        self.assertEqual(len(apart_ways((2, ((0, 1, 0),) * 24), 1, 0)), 24)
        self.assertEqual(len(apart_ways(WIDE, 0, 13)), 1)

    def test_none(self):
        for web in (BARE, LOOSE, (5, ())):
            self.assertEqual(apart_ways(web, web[0] - 1, 0), ())
            self.assertIs(are_apart_ways(web, 0, web[0] - 1, ()), True)
        for thing in STRANGE + NO_WISHES:
            self.assertIs(are_apart_ways(BARE, 0, 1, thing), is_exactly(thing, ()), thing)
            self.assertIs(are_apart_ways(TIE, 0, 1, thing), False, thing)
        self.assertIs(are_apart_ways(TIE, 0, 1, ((0,),)), True)
        self.assertIs(are_apart_ways(TIE, 0, 1, ((False,),)), False)
        self.assertIs(are_apart_ways(TIE, 0, 1, ((0,), (0,))), False)

    def test_ways_that_share_places(self):
        bow = (5, ((0, 2, 0), (0, 3, 0), (2, 3, 0), (2, 4, 0), (3, 4, 0)))
        self.assertIs(are_apart_ways(bow, 0, 4, ((0, 2, 4), (1,))), False)
        self.assertIs(are_apart_ways(bow, 0, 4, ((0, 3), (1, 4))), True)
        self.assertIs(are_apart_ways(bow, 0, 4, ((0, 2, 4), (1, 2, 3))), False)
        knot = (3, ((0, 2, 0), (0, 2, 0), (1, 2, 0), (1, 2, 0)))
        self.assertIs(are_apart_ways(knot, 0, 1, ((0, 3), (1, 2))), True)
        self.assertIs(are_apart_ways(knot, 0, 1, ((0, 2), (1, 2))), False)
        self.assertIs(are_apart_ways(knot, 0, 1, ((0, 1, 0, 3), (1, 2))), False)
        # A way meets no place twice, even if it goes over no tie twice.
        lasso = (4, ((0, 2, 0), (2, 1, 0), (2, 3, 0), (2, 3, 0)))
        self.assertIs(are_apart_ways(lasso, 0, 1, ((0, 1),)), True)
        self.assertIs(are_apart_ways(lasso, 0, 1, ((0, 2, 3, 1),)), False)

    def test_wrong_arguments(self):
        for function, rest in ((apart_ways, ()), (are_apart_ways, (None,))):
            for thing in NO_WEBS:
                self.assertEqual(raised(function, thing, None, None, *rest), ("BadWeb", {"thing": thing}))
            for thing in NO_PLACES:
                self.assertEqual(raised(function, TWICE, thing, thing, *rest), ("BadPlace", {"thing": thing}))
                self.assertEqual(raised(function, TWICE, 1, thing, *rest), ("BadPlace", {"thing": thing}))
            self.assertEqual(raised(function, TWICE, 1, 1, *rest), ("BadPlace", {"thing": 1}))
            self.assertEqual(raised(function, LONE, 0, 0, *rest), ("BadPlace", {"thing": 0}))


class Numbers(unittest.TestCase):
    """stream_numbers, stream_after and stream_between [12.2]."""

    def test_against_webs_that_are_grown(self):
        for garden in list(GARDENS) + thrown_gardens(200, 73, 5, 6):
            start, book = garden
            for n, web in webs_grown(garden, 150, 4):
                for p, q in itertools.permutations(range(start[0]), 2):
                    self.assertEqual(stream_after(garden, p, q, n), apart(web, p, q), (garden, p, q, n))
            for kind in range(len(book)):
                for n, piece in webs_grown(((2, ((0, 1, kind),)), book), 150, 4):
                    self.assertEqual(stream_numbers(book, n)[kind], apart(piece, 0, 1))

    def test_addresses_against_webs_that_are_grown(self):
        dice = random.Random(74)
        for garden in list(GARDENS) + thrown_gardens(150, 75, 5, 6):
            for n, web in webs_grown(garden, 150, 4):
                for _ in range(10):
                    one, other = dice.randrange(web[0]), dice.randrange(web[0])
                    mine, others = address_of(garden, n, one), address_of(garden, n, other)
                    if one == other:
                        self.assertEqual(raised(stream_between, garden, n, mine, others), ("BadAddress", {"thing": others}))
                    else:
                        self.assertEqual(stream_between(garden, n, mine, others), apart(web, one, other), (garden, n, mine, others))

    def test_forty_rounds(self):
        doubled = ((2, ((0, 1, 0), (0, 1, 0))),)
        self.assertEqual(stream_numbers(doubled, 40), (2 ** 40,))
        self.assertEqual(stream_numbers(((2, ((0, 1, 0),) * 9),), 40), (9 ** 40,))
        self.assertEqual(stream_numbers((DIAMOND,), 40), (2 ** 40,))
        self.assertEqual(stream_numbers((BARE,), 0), (1,))
        self.assertEqual(stream_numbers((BARE,), 40), (0,))
        self.assertEqual(stream_after((TRIANGLE, doubled), 0, 2, 40), 2 ** 41)
        self.assertEqual(stream_after((LOOSE, doubled), 0, 2, 40), 0)
        garden = (TRIANGLE, (DIAMOND,))
        for length in range(1, 41):
            # An inner place of a diamond has two ties in the round in which it comes, and twice as many in each further one.
            self.assertEqual(stream_between(garden, 40, ((0,) * length, 2), ((), 2)), 2 ** (41 - length))
            self.assertEqual(stream_between(garden, 40, ((0,) * length, 2), ((1,) + (0,) * (length - 1), 3)), 2 ** (41 - length))
        self.assertEqual(stream_between((LOOSE, (DIAMOND,)), 40, ((0,) * 40, 2), ((1,) * 40, 2)), 0)

    def test_by_name(self):
        self.assertEqual(stream_numbers(n=3, book=THICKER), (15, 1))
        self.assertEqual(stream_after(n=40, q=1, p=0, garden=GARDEN), 2199023255551)
        self.assertEqual(stream_between(other=((0, 2), 2), one=((), 0), n=2, garden=GARDEN), 2)

    def test_wrong_arguments(self):
        for thing in NO_BOOKS:
            self.assertEqual(raised(stream_numbers, thing, None), ("BadBook", {"thing": thing}))
        for thing in NO_GARDENS:
            self.assertEqual(raised(stream_after, thing, None, None, None), ("BadGarden", {"thing": thing}))
            self.assertEqual(raised(stream_between, thing, None, None, None), ("BadGarden", {"thing": thing}))
        for thing in NO_PLACES:
            self.assertEqual(raised(stream_after, GARDEN, thing, thing, None), ("BadPlace", {"thing": thing}))
            self.assertEqual(raised(stream_after, GARDEN, 0, thing, None), ("BadPlace", {"thing": thing}))
        self.assertEqual(raised(stream_after, GARDEN, 0, 0, None), ("BadPlace", {"thing": 0}))
        for thing in NO_NUMBERS:
            self.assertEqual(raised(stream_numbers, THICKER, thing), ("BadNumber", {"thing": thing}))
            self.assertEqual(raised(stream_after, GARDEN, 1, 0, thing), ("BadNumber", {"thing": thing}))
            self.assertEqual(raised(stream_between, GARDEN, thing, None, None), ("BadNumber", {"thing": thing}))
        for thing in NO_INTEGERS + (((), 2), ((0,), 2), ((0, 2), 3), ((0, 2), 1), ((0, 2, 0), 2), ((1, 2), 2), [(), 0], ((), True)):
            self.assertEqual(raised(stream_between, GARDEN, 2, thing, None), ("BadAddress", {"thing": thing}))
            self.assertEqual(raised(stream_between, GARDEN, 2, thing, ((), 1)), ("BadAddress", {"thing": thing}))
            self.assertEqual(raised(stream_between, GARDEN, 2, ((), 1), thing), ("BadAddress", {"thing": thing}))
        self.assertEqual(raised(stream_between, GARDEN, 1, ((), 1), ((0, 2), 2)), ("BadAddress", {"thing": ((0, 2), 2)}))
        self.assertEqual(raised(stream_between, GARDEN, 2, ((), 1), ((), 1)), ("BadAddress", {"thing": ((), 1)}))


class Streams(unittest.TestCase):
    """judge_stream and stream_holds [12.3]."""

    def right(self, garden, p, q, n, a, thing):
        return is_stream(garden, p, q, n, a, thing) or is_cut(garden, p, q, n, a, thing)

    def cases(self, many, seed):
        dice = random.Random(seed)
        for garden in list(GARDENS) + thrown_gardens(many, seed, 5, 6):
            if garden[0][0] > 1:
                p, q = dice.sample(range(garden[0][0]), 2)
                yield garden, p, q, dice

    def test_what_is_judged(self):
        for garden, p, q, _ in self.cases(150, 76):
            for n in (0, 1, 2, 5, 40):
                most = stream_after(garden, p, q, n)
                for a in sorted({1, max(1, most - 1), max(1, most), most + 1, 10 ** 45}):
                    told = judge_stream(garden, p, q, n, a)
                    self.assertEqual(told[0], "stream" if most >= a else "cut", (garden, p, q, n, a))
                    self.assertIs(stream_holds(garden, p, q, n, a, told), True, (garden, p, q, n, a, told))
                    self.assertTrue(self.right(garden, p, q, n, a, told))
                    self.assertIs(stream_holds(garden, p, q, n, most + 1, told), told[0] == "cut")

    def test_mutants(self):
        words = collections.Counter()
        for garden, p, q, dice in self.cases(120, 77):
            for n in (0, 1, 2, 3):
                a = max(1, stream_after(garden, p, q, n) + dice.choice((-1, 0, 1)))
                told = judge_stream(garden, p, q, n, a)
                for thing in some_mutants(told, dice, 40):
                    expected = self.right(garden, p, q, n, a, thing)
                    self.assertIs(stream_holds(garden, p, q, n, a, thing), expected, (garden, p, q, n, a, thing))
                    words[told[0], expected] += 1
        self.assertEqual(len(words), 4)
        self.assertGreater(min(words.values()), 5)

    def test_other_certificates(self):
        garden = (TIE, (DIAMOND, TIE))
        for n, a, thing, right in (
                (0, 1, ("stream", (), (1,)), True), (0, 1, ("stream", (), (-1,)), False), (0, 1, ("stream", (), (2,)), False),
                (0, 1, ("stream", (), (True,)), False), (0, 2, ("cut", (), (0,)), True), (0, 1, ("cut", (), (0,)), False), (0, 2, ("cut", (), ()), False),
                (0, 2, ("cut", (), (0, 1)), False), (0, 2, ("cut", (), (1,)), False), (0, 2, ("cut", (), (False,)), False), (0, 2, ("cut", (), [0]), False),
                (1, 2, ("stream", (((1, 1, 1, 1), (1,)),), (2,)), True), (1, 2, ("stream", (((1, 1, 1, 1), (0,)),), (2,)), True),
                (1, 2, ("stream", (((1, 1, 1, 1), (-1,)),), (2,)), False), (1, 1, ("stream", (((1, 0, 1, 0), (1,)),), (1,)), True),
                (1, 1, ("stream", (((1, 0, 1, 0), (1,)),), (2,)), False), (1, 1, ("stream", (((1, 0, 0, 1), (1,)),), (1,)), False),
                (1, 1, ("stream", (((1, -1, 1, -1), (1,)),), (0,)), False), (1, 3, ("cut", (((0, 2), (0,)),), (0,)), True),
                (1, 3, ("cut", (((0, 2, 3), (0,)),), (0,)), True), (1, 3, ("cut", (((0, 3, 2), (0,)),), (0,)), False),
                (1, 3, ("cut", (((0, 2, 2), (0,)),), (0,)), False), (1, 3, ("cut", (((0, 1), (0,)),), (0,)), False),
                (1, 3, ("cut", (((2, 3), (0,)),), (0,)), False), (1, 3, ("cut", (((0, 4), (0,)),), (0,)), False), (1, 2, ("cut", (((0,), (0,)),), (0,)), False)):
            self.assertIs(stream_holds(garden, 0, 1, n, a, thing), right, (n, a, thing))
        # What runs in a ring is no fault, even through the ends.
        ringed = ((3, ((0, 1, 0), (0, 2, 0), (1, 2, 0))), (TIE,))
        self.assertIs(stream_holds(ringed, 0, 2, 0, 1, ("stream", (), (0, 1, 0))), True)
        self.assertIs(stream_holds(((4, ((0, 1, 0), (1, 2, 0), (1, 3, 0), (2, 3, 0))), (TIE,)), 0, 1, 0, 1, ("stream", (), (1, 1, -1, 1))), True)
        self.assertIs(stream_holds(((4, ((0, 1, 0), (1, 2, 0), (1, 3, 0), (2, 3, 0))), (TIE,)), 0, 1, 0, 1, ("stream", (), (1, 1, 1, 1))), False)

    def test_forty_rounds(self):
        garden = (TIE, ((2, ((0, 1, 0),) * 9),))
        for a in (9 ** 40, 9 ** 40 + 1):
            told = judge_stream(garden, 0, 1, 40, a)
            self.assertEqual(told[0], "stream" if a == 9 ** 40 else "cut")
            self.assertIs(stream_holds(garden, 0, 1, 40, a, told), True)
            self.assertIs(stream_holds(garden, 0, 1, 39, a, told), False)
            self.assertIs(stream_holds(garden, 1, 0, 40, a, told), False)

    def test_any_value(self):
        for thing in STRANGE + NO_WISHES:
            for a in (1, 9):
                self.assertIs(stream_holds(GARDEN, 0, 1, 2, a, thing), False, thing)

    def test_by_name(self):
        told = judge_stream(a=3, n=2, q=1, p=0, garden=GARDEN)
        self.assertEqual(told, judge_stream(GARDEN, 0, 1, 2, 3))
        self.assertIs(stream_holds(thing=told, a=3, n=2, q=1, p=0, garden=GARDEN), True)

    def test_wrong_arguments(self):
        for function, rest in ((judge_stream, ()), (stream_holds, (None,))):
            for thing in NO_GARDENS:
                self.assertEqual(raised(function, thing, None, None, None, None, *rest), ("BadGarden", {"thing": thing}))
            for thing in NO_PLACES:
                self.assertEqual(raised(function, GARDEN, thing, thing, None, None, *rest), ("BadPlace", {"thing": thing}))
                self.assertEqual(raised(function, GARDEN, 0, thing, None, None, *rest), ("BadPlace", {"thing": thing}))
            self.assertEqual(raised(function, GARDEN, 0, 0, None, None, *rest), ("BadPlace", {"thing": 0}))
            for thing in NO_NUMBERS:
                self.assertEqual(raised(function, GARDEN, 0, 1, thing, "a", *rest), ("BadNumber", {"thing": thing}))
                self.assertEqual(raised(function, GARDEN, 0, 1, 3, thing, *rest), ("BadNumber", {"thing": thing}))
            self.assertEqual(raised(function, GARDEN, 0, 1, 3, 0, *rest), ("BadNumber", {"thing": 0}))


if __name__ == "__main__":
    unittest.main()
