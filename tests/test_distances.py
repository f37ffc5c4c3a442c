import collections
import random
import unittest

from manydeep.addresses import address_of, place_of, row_ends, rows_at
from manydeep.distances import (distance_after, distance_between, end_numbers, farthest_after, judge_near, near_holds,
                                next_rows)
from manydeep.errors import TooMany
from manydeep.rounds import grown
from tests import plainly
from tests.anyvalues import (BARE, LONE, NO_BOOKS, NO_GARDENS, NO_INTEGERS, NO_NUMBERS, NO_WISHES, ROW, STRANGE, TIE,
                             raised)
from tests.assorted import DIAMOND, GARDENS, LONG, LOOSE, TAIL, TRIANGLE, thrown_gardens
from tests.mutants import is_exactly, some_mutants

GARDEN = (TIE, LONG)
NO_PLACES = NO_INTEGERS + (-1, 2, 10 ** 99)


def far_from(web, place):
    """For each place its distance, looked for round by round; None where there is no way."""
    far = {place: 0}
    waiting = collections.deque([place])
    near = collections.defaultdict(set)
    for a, b, _ in web[1]:
        near[a].add(b)
        near[b].add(a)
    while waiting:
        one = waiting.popleft()
        for other in near[one] - set(far):
            far[other] = far[one] + 1
            waiting.append(other)
    return [far.get(other) for other in range(web[0])]


def webs_grown(garden, places, rounds):
    """Pairs (n, web) of the webs of a garden that have at most so many places."""
    found = []
    for n in range(rounds + 1):
        try:
            web = grown(garden, n)
        except TooMany:
            break
        if web[0] > places:
            break
        found.append((n, web))
    return found


def is_plain_way(web, begin, end, thing):
    return isinstance(thing, tuple) and any(is_exactly(thing, way) for way in plainly.ways(web, begin, end))


def is_integer(thing):
    return isinstance(thing, int) and not isinstance(thing, bool)


def is_near(garden, p, q, n, d, thing):
    """What 11.2 says of certificates ("near", tables, way), word by word."""
    start, book = garden
    if not (isinstance(thing, tuple) and len(thing) == 3 and is_exactly(thing[0], "near")):
        return False
    _, tables, way = thing
    if not isinstance(tables, tuple) or len(tables) != n:
        return False
    sizes = {kind: 1 for kind in range(len(book))}
    for table in tables:
        if not isinstance(table, tuple) or len(table) != len(book):
            return False
        behind = {}
        for kind, item in enumerate(table):
            if item is None:
                continue
            if not is_plain_way(book[kind], 0, 1, item) or any(book[kind][1][number][2] not in sizes for number in item):
                return False
            behind[kind] = sum(sizes[book[kind][1][number][2]] for number in item)
        sizes = behind
    if not is_plain_way(start, p, q, way) or any(start[1][number][2] not in sizes for number in way):
        return False
    return sum(sizes[start[1][number][2]] for number in way) <= d


def are_plain_heights(web, steps, thing):
    if not (isinstance(thing, tuple) and len(thing) == web[0] and all(is_integer(item) for item in thing)):
        return False
    return all(abs(thing[a] - thing[b]) <= steps[kind] for a, b, kind in web[1])


def is_over(garden, p, q, n, d, thing):
    """What 11.2 says of certificates ("over", tables, heights), word by word."""
    start, book = garden
    if not (isinstance(thing, tuple) and len(thing) == 3 and is_exactly(thing[0], "over")):
        return False
    _, tables, heights = thing
    if not isinstance(tables, tuple) or len(tables) != n:
        return False
    steps = [1] * len(book)
    for table in tables:
        if not isinstance(table, tuple) or len(table) != len(book):
            return False
        for growth, item in zip(book, table):
            if not are_plain_heights(growth, steps, item) or item[0] != 0 or item[1] < 0:
                return False
        steps = [item[1] for item in table]
    return are_plain_heights(start, steps, heights) and heights[p] == 0 and heights[q] > d


class Numbers(unittest.TestCase):
    """end_numbers, distance_after and farthest_after [11.1]."""

    def test_examples(self):
        self.assertEqual(
            [end_numbers(LONG, 0), end_numbers(LONG, 1), end_numbers(LONG, 4), end_numbers(LONG, 60), distance_after((TIE, LONG), 0, 1, 4)],
            [(1, 1), (2, 1), (8, 5), (4052739537881, 2504730781961), 8])
        self.assertEqual(
            [distance_between((TIE, LONG), 3, ((), 0), ((0,), 2)), distance_between((TIE, LONG), 3, ((0, 0), 2), ((), 1)),
             next_rows((TIE, LONG), 3, ((), 0), ((), 1))], [3, 3, ((0, 0, 0, 0),)])
        self.assertEqual(
            [near_holds((TIE, LONG), 0, 1, 2, 3, ('near', (((0, 1), (0,)), ((0, 1), (0,))), (0,))),
             near_holds((TIE, LONG), 0, 1, 2, 2, ('over', (((0, 2, 1), (0, 1)), ((0, 3, 2), (0, 2))), (0, 3)))], [True, True])
        diamond, tail = (DIAMOND,), (TAIL,)
        self.assertEqual(
            [next_rows((TIE, diamond), 1, ((), 0), ((), 1)), distance_after((TIE, diamond), 0, 1, 60), farthest_after((TIE, diamond), 0, 2),
             farthest_after((TIE, tail), 1, 5)], [((0, 0), (0, 1)), 1152921504606846976, 4, 2])
        self.assertEqual(raised(distance_after, (TIE, tail), 0, 2, 5), ("BadPlace", {"thing": 2}))

    def test_against_webs_that_are_grown(self):
        for garden in list(GARDENS) + thrown_gardens(250, 61, 5, 6):
            start, book = garden
            for n, web in webs_grown(garden, 400, 5):
                for p in range(start[0]):
                    far = far_from(web, p)
                    self.assertEqual(farthest_after(garden, p, n), None if None in far else max(far), (garden, p, n))
                    for q in range(start[0]):
                        self.assertEqual(distance_after(garden, p, q, n), far[q], (garden, p, q, n))
            for kind in range(len(book)):
                for n, piece in webs_grown(((2, ((0, 1, kind),)), book), 400, 5):
                    self.assertEqual(end_numbers(book, n)[kind], far_from(piece, 0)[1])

    def test_sixty_rounds(self):
        self.assertEqual(end_numbers((ROW,), 60), (2 ** 60,))
        self.assertEqual(end_numbers((BARE,), 0), (1,))
        self.assertEqual(end_numbers((BARE,), 60), (None,))
        self.assertEqual(distance_after((TIE, (BARE,)), 0, 1, 60), None)
        self.assertEqual(distance_after((TIE, (BARE,)), 1, 1, 60), 0)
        chain = (6, ((0, 2, 0), (2, 3, 0), (3, 4, 0), (4, 5, 0), (5, 1, 0)))
        self.assertEqual(end_numbers((chain,), 60), (5 ** 60,))
        around = (7, tuple(sorted((place, (place + 1) % 7, 0) for place in range(7))))
        self.assertEqual(distance_after((around, (chain,)), 0, 4, 60), 3 * 5 ** 60)
        # The short way is barred from the second round on.
        self.assertEqual([end_numbers(((3, ((0, 1, 1), (0, 2, 0), (2, 1, 0))), BARE), n)[0] for n in range(5)], [1, 1, 2, 4, 8])

    def test_farthest_after_eight_rounds(self):
        chain = (6, ((0, 2, 0), (2, 3, 0), (3, 4, 0), (4, 5, 0), (5, 1, 0)))
        self.assertEqual(farthest_after((TIE, (chain,)), 0, 8), 5 ** 8)
        self.assertEqual(farthest_after(((3, ((0, 1, 0), (1, 2, 0))), (chain,)), 1, 8), 5 ** 8)
        self.assertEqual(farthest_after((TRIANGLE, (ROW,)), 0, 8), 3 * 2 ** 7)
        self.assertEqual(farthest_after((TIE, (TAIL,)), 0, 8), 1)
        self.assertEqual(farthest_after((TIE, (LOOSE,)), 0, 0), 1)
        self.assertEqual(farthest_after((TIE, (LOOSE,)), 0, 1), None)
        self.assertEqual(farthest_after((LONE, (LOOSE,)), 0, 8), 0)
        full = (6, tuple(sorted([(0, 2, 0), (0, 3, 1), (2, 4, 2), (4, 5, 0), (5, 3, 1), (3, 1, 2), (4, 1, 0), (2, 3, 1), (2, 5, 2)])))
        twisted = (6, tuple(sorted([(1, 2, 2), (0, 3, 1), (2, 4, 0), (4, 5, 0), (5, 3, 1), (3, 1, 2), (4, 0, 2), (2, 3, 1), (2, 5, 2)])))
        garden = ((7, tuple(sorted((place, (place + 1) % 7, place % 3) for place in range(7)))), (full, twisted, ROW))
        far = [farthest_after(garden, 0, n) for n in range(9)]
        web = garden[0]
        for n in range(4):
            self.assertEqual(far[n], max(far_from(web, 0)))
            web = plain_round(web, garden[1])
        self.assertEqual(sorted(far), far)

    def test_by_name(self):
        self.assertEqual(end_numbers(n=4, book=LONG), (8, 5))
        self.assertEqual(distance_after(n=4, q=1, p=0, garden=GARDEN), 8)
        self.assertEqual(farthest_after(n=2, p=0, garden=(TIE, (DIAMOND,))), 4)

    def test_wrong_arguments(self):
        for thing in NO_GARDENS:
            self.assertEqual(raised(distance_after, thing, None, None, None), ("BadGarden", {"thing": thing}))
            self.assertEqual(raised(farthest_after, thing, None, None), ("BadGarden", {"thing": thing}))
        for thing in NO_BOOKS:
            self.assertEqual(raised(end_numbers, thing, None), ("BadBook", {"thing": thing}))
        for thing in NO_PLACES:
            self.assertEqual(raised(distance_after, GARDEN, thing, None, None), ("BadPlace", {"thing": thing}))
            self.assertEqual(raised(distance_after, GARDEN, 0, thing, None), ("BadPlace", {"thing": thing}))
            self.assertEqual(raised(farthest_after, GARDEN, thing, None), ("BadPlace", {"thing": thing}))
        for thing in NO_NUMBERS:
            self.assertEqual(raised(end_numbers, LONG, thing), ("BadNumber", {"thing": thing}))
            self.assertEqual(raised(distance_after, GARDEN, 1, 1, thing), ("BadNumber", {"thing": thing}))
            self.assertEqual(raised(farthest_after, GARDEN, 1, thing), ("BadNumber", {"thing": thing}))


def plain_round(web, book):
    """A round with any number of places."""
    places, ties = web[0], []
    for a, b, kind in web[1]:
        names = [a, b] + list(range(places, places + book[kind][0] - 2))
        places += book[kind][0] - 2
        ties.extend((names[x], names[y], inside) for x, y, inside in book[kind][1])
    return (places, tuple(sorted(ties)))


class Near(unittest.TestCase):
    """judge_near and near_holds [11.2]."""

    def right(self, garden, p, q, n, d, thing):
        return is_near(garden, p, q, n, d, thing) or is_over(garden, p, q, n, d, thing)

    def cases(self, many, seed):
        dice = random.Random(seed)
        for garden in list(GARDENS) + thrown_gardens(many, seed, 5, 6):
            if garden[0][0] > 1:
                p, q = dice.sample(range(garden[0][0]), 2)
                yield garden, p, q, dice

    def test_what_is_judged(self):
        for garden, p, q, dice in self.cases(200, 62):
            for n in (0, 1, 2, 5, 60):
                far = distance_after(garden, p, q, n)
                for d in (0, 1, 5, 10 ** 45) if far is None else (0, far - 1, far, far + 1, 10 ** 45):
                    told = judge_near(garden, p, q, n, d)
                    self.assertEqual(told[0], "near" if far is not None and far <= d else "over", (garden, p, q, n, d))
                    self.assertIs(near_holds(garden, p, q, n, d, told), True, (garden, p, q, n, d, told))
                    self.assertTrue(self.right(garden, p, q, n, d, told))
                    if far is not None and told[0] == "near":
                        self.assertIs(near_holds(garden, p, q, n, far - 1, told), False)
                        self.assertIs(near_holds(garden, p, q, n, far + 9, told), True)

    def test_mutants(self):
        words = collections.Counter()
        for garden, p, q, dice in self.cases(150, 63):
            for n in (0, 1, 2, 3):
                far = distance_after(garden, p, q, n)
                d = dice.choice((0, 1, 2, 5)) if far is None else max(0, far + dice.choice((-1, 0, 1)))
                told = judge_near(garden, p, q, n, d)
                for thing in some_mutants(told, dice, 40):
                    expected = self.right(garden, p, q, n, d, thing)
                    self.assertIs(near_holds(garden, p, q, n, d, thing), expected, (garden, p, q, n, d, thing))
                    words[told[0], expected] += 1
        self.assertGreater(min(words.values()), 10)
        self.assertEqual(len(words), 4)

    def test_other_certificates(self):
        # Not the shortest ways, other heights, and kinds without a way where none is needed.
        garden = (TIE, ((3, ((0, 1, 1), (0, 2, 0), (2, 1, 0))), TIE))
        for n, d, thing, right in (
                (1, 2, ("near", (((1, 2), (0,)),), (0,)), True), (1, 1, ("near", (((1, 2), (0,)),), (0,)), False),
                (1, 2, ("near", (((1, 2), None),), (0,)), True), (2, 3, ("near", (((1, 2), None), ((0,), None)), (0,)), False),
                (2, 2, ("near", (((1, 2), None), ((1, 2), None)), (0,)), False), (2, 4, ("near", (((1, 2), None), ((1, 2), None)), (0,)), True),
                (1, 5, ("near", ((None, (0,)),), (0,)), False), (1, 2, ("near", (((2, 1), None),), (0,)), False),
                (1, 2, ("near", (((0, 0, 0), None),), (0,)), False), (1, 2, ("near", (((), None),), (0,)), False),
                (0, 1, ("near", (), (0,)), True), (0, 0, ("near", (), (0,)), False), (0, 0, ("over", (), (0, 1)), True),
                (0, 1, ("over", (), (0, 1)), False), (1, 0, ("over", (((0, 1, 0), (0, 0)),), (0, 1)), True),
                (1, 0, ("over", (((0, 1, -1), (0, 0)),), (0, 1)), False), (1, 0, ("over", (((0, 1, 1), (0, -1)),), (0, 1)), False),
                (1, 0, ("over", (((0, 1, 1), (0, 1)),), (0, 2)), False), (1, 0, ("over", (((0, 1, 1), (0, 1)),), (1, 2)), False)):
            self.assertIs(near_holds(garden, 0, 1, n, d, thing), right, (n, d, thing))
        # A place without a way can be as high as anybody likes.
        split = ((4, ((0, 1, 0), (2, 3, 0))), (BARE,))
        for height in (10 ** 45, -(10 ** 45), 7):
            self.assertIs(near_holds(split, 1, 2, 1, 5, ("over", (((0, 0),),), (0, 0, height, height))), height > 5)
            thing = ("over", (((0, 10 ** 45),),), (-7, 0, 10 ** 45, height))
            self.assertIs(near_holds(split, 1, 2, 1, 5, thing), abs(10 ** 45 - height) <= 10 ** 45)

    def test_sixty_rounds(self):
        garden = (TIE, (ROW,))
        for d in (2 ** 60 - 1, 2 ** 60):
            told = judge_near(garden, 0, 1, 60, d)
            self.assertEqual(told[0], "over" if d < 2 ** 60 else "near")
            self.assertIs(near_holds(garden, 0, 1, 60, d, told), True)
            self.assertIs(near_holds(garden, 0, 1, 60, 2 ** 60 * 2 - 1 - d, told), False)
            self.assertIs(near_holds(garden, 0, 1, 59, d, told), False)
            self.assertIs(near_holds(garden, 1, 0, 60, d, told), told[0] == "near")

    def test_any_value(self):
        for thing in STRANGE + NO_WISHES:
            for d in (0, 5):
                self.assertIs(near_holds(GARDEN, 0, 1, 2, d, thing), False, thing)

    def test_by_name(self):
        told = judge_near(d=3, n=2, q=1, p=0, garden=GARDEN)
        self.assertEqual(told, judge_near(GARDEN, 0, 1, 2, 3))
        self.assertIs(near_holds(thing=told, d=3, n=2, q=1, p=0, garden=GARDEN), True)

    def test_wrong_arguments(self):
        for function, rest in ((judge_near, ()), (near_holds, (None,))):
            for thing in NO_GARDENS:
                self.assertEqual(raised(function, thing, None, None, None, None, *rest), ("BadGarden", {"thing": thing}))
            for thing in NO_PLACES:
                self.assertEqual(raised(function, GARDEN, thing, thing, None, None, *rest), ("BadPlace", {"thing": thing}))
                self.assertEqual(raised(function, GARDEN, 1, thing, None, None, *rest), ("BadPlace", {"thing": thing}))
            for place in (0, 1):
                self.assertEqual(raised(function, GARDEN, place, place, None, None, *rest), ("BadPlace", {"thing": place}))
            for thing in NO_NUMBERS:
                self.assertEqual(raised(function, GARDEN, 0, 1, thing, "d", *rest), ("BadNumber", {"thing": thing}))
                self.assertEqual(raised(function, GARDEN, 0, 1, 0, thing, *rest), ("BadNumber", {"thing": thing}))


class Addresses(unittest.TestCase):
    """distance_between and next_rows [11.3]."""

    def test_against_webs_that_are_grown(self):
        dice = random.Random(64)
        for garden in list(GARDENS) + thrown_gardens(120, 65, 5, 6):
            for n, web in webs_grown(garden, 120, 4):
                for _ in range(12):
                    one, other = dice.randrange(web[0]), dice.randrange(web[0])
                    mine, others = address_of(garden, n, one), address_of(garden, n, other)
                    far = far_from(web, other)
                    self.assertEqual(distance_between(garden, n, mine, others), far[one], (garden, n, mine, others))
                    if one == other:
                        self.assertEqual(raised(next_rows, garden, n, mine, others), ("BadAddress", {"thing": others}))
                        continue
                    self.assertEqual(next_rows(garden, n, mine, others), self.rows_nearer(garden, n, mine, far), (garden, n, mine, others))

    def rows_nearer(self, garden, n, mine, far):
        """The rows at a place whose other end is nearer by 1, looked for one by one."""
        found = []
        here = far[place_of(garden, n, mine)]
        for row in rows_at(garden, mine, n):
            ends = [place_of(garden, n, address) for address in row_ends(garden, row)]
            if here is not None and here - 1 in [far[end] for end in ends]:
                found.append(row)
        return tuple(found)

    def test_out_of_a_piece_and_back(self):
        # Inside the piece there is a long way only; outside, a short one joins its ends.
        long_way = (6, ((0, 2, 1), (1, 3, 1), (2, 4, 1), (3, 5, 1), (4, 5, 0)))
        garden = ((2, ((0, 1, 0), (0, 1, 1))), (long_way, TIE_OF_ONE))
        self.assertEqual(distance_between(garden, 1, ((0,), 4), ((0,), 5)), 1)
        for n in (2, 3, 30):
            self.assertEqual(distance_between(garden, n, ((0,), 2), ((0,), 3)), 3)
            self.assertEqual(distance_between(garden, n, ((0,), 4), ((0,), 5)), 5)
            self.assertEqual(next_rows(garden, n, ((0,), 2), ((0,), 3)), ((0, 0) + (0,) * (n - 1),))
        # Without the short way outside there is the long one alone.
        self.assertEqual(distance_between((TIE, (long_way, TIE_OF_ONE)), 2, ((0,), 2), ((0,), 3)), 7)
        self.assertEqual(distance_between((TIE, (long_way, TIE_OF_ONE)), 3, ((0,), 2), ((0,), 3)), 11)

    def test_one_inside_and_one_outside(self):
        garden = (TRIANGLE, (DIAMOND,))
        for n in range(1, 61):
            self.assertEqual(distance_between(garden, n, ((), 2), ((0,), 3)), 2 ** n + 2 ** (n - 1))
            self.assertEqual(distance_between(garden, n, ((0,), 2), ((0,), 3)), 2 ** n)

    def test_deep_addresses(self):
        garden = (TIE, (ROW,))
        deep, deeper = ((0,) * 60, 2), ((0,) * 59, 2)
        self.assertEqual(distance_between(garden, 60, deep, ((), 0)), 1)
        self.assertEqual(distance_between(garden, 60, deep, deeper), 1)
        self.assertEqual(distance_between(garden, 60, deep, ((), 1)), 2 ** 60 - 1)
        one, other = (0,) + (0, 1) * 29, (0, 1, 1) + (1, 0) * 28
        self.assertEqual(distance_between(garden, 60, (one, 2), (other, 2)), abs(self.place_in_line(one) - self.place_in_line(other)))
        self.assertEqual(next_rows(garden, 60, deep, ((), 1)), ((0,) * 60 + (1,),))
        self.assertEqual(next_rows(garden, 60, deep, ((), 0)), ((0,) * 61,))
        self.assertEqual(next_rows((TIE, (DIAMOND,)), 8, ((), 0), ((), 1)), rows_at((TIE, (DIAMOND,)), ((), 0), 8))
        self.assertEqual(len(next_rows((TIE, (DIAMOND,)), 8, ((), 0), ((), 1))), 256)

    def place_in_line(self, row):
        """After 60 rounds the ties are a line of 2 ** 60: where in it the place comes that is born of a row."""
        at, size = 0, 2 ** 60
        for tie in row[1:]:
            size //= 2
            at += tie * size
        return at + size // 2

    def test_no_way(self):
        garden = ((4, ((0, 1, 0), (2, 3, 0))), (ROW,))
        self.assertEqual(distance_between(garden, 3, ((0,), 2), ((1,), 2)), None)
        self.assertEqual(next_rows(garden, 3, ((0,), 2), ((1,), 2)), ())
        self.assertEqual(distance_between((TIE, (LOOSE,)), 1, ((0,), 2), ((), 0)), None)
        self.assertEqual(distance_between((TIE, (LOOSE,)), 1, ((0,), 2), ((0,), 3)), 1)
        self.assertEqual(distance_between((LONE, (LOOSE,)), 1, ((), 0), ((), 0)), 0)

    def test_by_name(self):
        self.assertEqual(distance_between(other=((0,), 2), one=((), 0), n=3, garden=GARDEN), 3)
        self.assertEqual(next_rows(other=((), 1), one=((), 0), n=3, garden=GARDEN), ((0, 0, 0, 0),))

    def test_wrong_arguments(self):
        no_addresses = NO_INTEGERS + (((), 2), ((0,), 1), ((0,), 3), ((1,), 2), ((0, 1), 2), ((0, 0, 0), 2), [(), 0], ((), True), ((), 0, 0))
        for function in (distance_between, next_rows):
            for thing in NO_GARDENS:
                self.assertEqual(raised(function, thing, None, None, None), ("BadGarden", {"thing": thing}))
            for thing in NO_NUMBERS:
                self.assertEqual(raised(function, GARDEN, thing, None, None), ("BadNumber", {"thing": thing}))
            for thing in no_addresses:
                self.assertEqual(raised(function, GARDEN, 2, thing, None), ("BadAddress", {"thing": thing}))
                self.assertEqual(raised(function, GARDEN, 2, ((0,), 2), thing), ("BadAddress", {"thing": thing}))
            # An address of a later round is none of a place after n rounds.
            self.assertEqual(raised(function, GARDEN, 0, ((0,), 2), ((), 0)), ("BadAddress", {"thing": ((0,), 2)}))
            self.assertEqual(raised(function, GARDEN, 1, ((), 0), ((0, 0), 2)), ("BadAddress", {"thing": ((0, 0), 2)}))
        self.assertEqual(distance_between(GARDEN, 3, ((0,), 2), ((0,), 2)), 0)
        self.assertEqual(raised(next_rows, GARDEN, 3, ((0,), 2), ((0,), 2)), ("BadAddress", {"thing": ((0,), 2)}))


TIE_OF_ONE = (2, ((0, 1, 1),))

if __name__ == "__main__":
    unittest.main()
