import itertools
import random
import unittest

from manydeep.rounds import ties_after
from manydeep.speeds import judge_speed, kinds_of, leads, speed_holds
from tests.anyvalues import BARE, LONE, NO_BOOKS, NO_GARDENS, NO_INTEGERS, NO_WISHES, ROW, STRANGE, TIE, raised
from tests.assorted import GARDENS, LONG, thrown_gardens
from tests.mutants import is_exactly, some_mutants

TIE_OF_ONE, TIE_OF_TWO = (2, ((0, 1, 1),)), (2, ((0, 1, 2),))
BOTH_01, BOTH_12 = (2, ((0, 1, 0), (0, 1, 1))), (2, ((0, 1, 1), (0, 1, 2)))
# Gardens with their speeds: the word, and for degrees the degree.
SPEEDS = (
    (((5, ()), LONG), "dies", 0), ((LONE, (TIE,)), "dies", 0), ((TIE, (BARE,)), "dies", 1), ((TIE, (TIE_OF_ONE, BARE)), "dies", 2),
    ((TIE, (TIE_OF_ONE, TIE_OF_TWO, BARE)), "dies", 3), ((TIE, (BOTH_12, TIE_OF_TWO, BARE)), "dies", 3),
    ((TIE, (TIE_OF_TWO, TIE, BARE)), "dies", 2), ((TIE_OF_ONE, (ROW, BARE)), "dies", 1), ((TIE_OF_ONE, (ROW, (3, ()))), "dies", 1),
    ((TIE, (TIE,)), "degree", 0), ((TIE, (TIE_OF_ONE, TIE)), "degree", 0), ((TIE, (BOTH_01, BARE)), "degree", 0),
    ((TIE, (TIE_OF_ONE, TIE_OF_TWO, TIE)), "degree", 0), ((TIE, ((2, ((0, 1, 1), (0, 1, 1))), TIE_OF_ONE)), "degree", 0),
    ((TIE, (BOTH_01, TIE_OF_ONE)), "degree", 1), ((TIE_OF_ONE, (BOTH_01, TIE_OF_ONE)), "degree", 0),
    ((TIE, (BOTH_01, BOTH_12, TIE_OF_TWO)), "degree", 2), ((TIE_OF_ONE, (BOTH_01, BOTH_12, TIE_OF_TWO)), "degree", 1),
    ((TIE, ((2, ((0, 1, 0), (0, 1, 1), (0, 1, 2))), TIE_OF_ONE, TIE_OF_TWO)), "degree", 1),
    ((TIE, (TIE_OF_ONE, (2, ((0, 1, 0), (0, 1, 2))), TIE_OF_TWO)), "degree", 1),
    ((TIE, (ROW,)), "doubling", None), ((TIE, ((2, ((0, 1, 0), (0, 1, 0))),)), "doubling", None), ((TIE, LONG), "doubling", None),
    ((TIE, ((2, ((0, 1, 1), (0, 1, 1))), TIE)), "doubling", None), ((TIE, (TIE_OF_ONE, (2, ((0, 1, 1), (0, 1, 1))))), "doubling", None),
    ((TIE, (TIE_OF_ONE, BOTH_12, (2, ((0, 1, 0), (0, 1, 2))))), "doubling", None),
    ((TIE, (TIE, ROW)), "degree", 0), ((TIE, (TIE_OF_ONE, TIE_OF_ONE, (2, ((0, 1, 2), (0, 1, 2))))), "degree", 0),
)


def kinds_walked(garden):
    """The kinds of the ties of the web after some number of rounds."""
    found = set()
    kinds = {tie[2] for tie in garden[0][1]}
    for _ in range(5):
        found |= kinds
        kinds = {tie[2] for kind in kinds for tie in garden[1][kind][1]}
    return tuple(sorted(found))


def descents(book, c, length):
    """All descents from c of a length, with the kinds that they end with."""
    found = [((), c)]
    for _ in range(length):
        found = [(row + (number,), tie[2]) for row, kind in found for number, tie in enumerate(book[kind][1])]
    return found


def back(book, c, length):
    return [row for row, kind in descents(book, c, length) if kind == c]


def plain_leads(book, c, d):
    return any(kind == d for length in (1, 2, 3) for _, kind in descents(thin(book), c, length))


def thin(book):
    """The book in which each growth has just one tie of each of its kinds."""
    return tuple((2, tuple((0, 1, kind) for kind in sorted({tie[2] for tie in growth[1]}))) for growth in book)


def is_doubling(garden):
    book = garden[1]
    return any(len(back(twofold(book), c, length)) > 1 for c in kinds_walked(garden) for length in range(1, 7))


def twofold(book):
    """The book in which each growth has at most two ties of each kind."""
    return tuple((2, tuple((0, 1, kind) for kind in range(3) for _ in range(min(2, [tie[2] for tie in growth[1]].count(kind))))) for growth in book)


def chains(garden):
    """All tuples as they are told in 10.2, of any length."""
    book = garden[1]
    lasting = [kind for kind in kinds_walked(garden) if plain_leads(book, kind, kind)]
    found = []
    for many in range(1, 4):
        for chain in itertools.permutations(lasting, many):
            steps = all(plain_leads(book, one, other) for one, other in zip(chain, chain[1:]))
            if steps and not any(plain_leads(book, other, one) for one, other in itertools.combinations(chain, 2)):
                found.append(chain)
    return found


def is_right(garden, thing):
    """What the text says, word by word."""
    if not isinstance(thing, tuple) or not thing:
        return False
    book, doubling = garden[1], is_doubling(garden)
    if is_exactly(thing[0], "dies") and len(thing) == 2:
        n = thing[1]
        if not isinstance(n, int) or isinstance(n, bool) or not 0 <= n < 50:
            return False
        return not any(ties_after(garden, n)) and (n == 0 or any(ties_after(garden, n - 1)))
    if is_exactly(thing[0], "degree") and len(thing) == 3:
        all_chains = chains(garden)
        longest = max([len(chain) for chain in all_chains], default=0)
        right = any(is_exactly(thing[2], chain) and len(chain) == longest for chain in all_chains)
        return right and is_exactly(thing[1], longest - 1) and not doubling
    if is_exactly(thing[0], "doubling") and len(thing) == 4:
        _, c, one, other = thing
        if not any(is_exactly(c, kind) for kind in kinds_walked(garden)):
            return False
        return is_back(book, c, one) and is_back(book, c, other) and len(one) == len(other) and one != other
    return False


def is_back(book, c, thing):
    if not isinstance(thing, tuple) or not thing or any(type(number) is not int for number in thing):
        return False
    kind = c
    for number in thing:
        if not 0 <= number < len(book[kind][1]):
            return False
        kind = book[kind][1][number][2]
    return kind == c


ALL = list(GARDENS) + [garden for garden, _, _ in SPEEDS] + thrown_gardens(250, 51, 3, 3) + thrown_gardens(60, 52, 5, 6)


class Kinds(unittest.TestCase):
    """kinds_of and leads [10.1]."""

    def test_examples(self):
        self.assertEqual(
            [kinds_of((TIE, LONG)), leads(LONG, 1, 1), judge_speed((TIE, LONG))[0], speed_holds((TIE, LONG), ('doubling', 0, (0, 0), (1, 0))),
             judge_speed((TIE, (TIE,))), judge_speed((TIE, ((2, ()),)))], [(0, 1), True, 'doubling', True, ('degree', 0, (0,)), ('dies', 1)])

    def test_against_a_walk(self):
        for garden in ALL:
            self.assertEqual(kinds_of(garden), kinds_walked(garden), garden)
            self.assertEqual(kinds_of(garden=garden), kinds_walked(garden))
            book = garden[1]
            for c in range(len(book)):
                for d in range(len(book)):
                    self.assertIs(leads(book, c, d), plain_leads(book, c, d), (book, c, d))
                    self.assertIs(leads(d=d, c=c, book=book), plain_leads(book, c, d))

    def test_kinds_that_no_tie_leads_to(self):
        self.assertEqual(kinds_of((LONE, LONG)), ())
        self.assertEqual(kinds_of((TIE, (TIE, ROW, TIE_OF_ONE))), (0,))
        self.assertEqual(kinds_of((TIE_OF_TWO, (TIE, ROW, TIE_OF_ONE))), (0, 1, 2))
        self.assertIs(leads((TIE, ROW, TIE_OF_ONE), 0, 2), False)
        self.assertIs(leads((TIE, ROW, TIE_OF_ONE), 2, 0), True)
        self.assertIs(leads((BARE,), 0, 0), False)

    def test_wrong_arguments(self):
        for thing in NO_GARDENS:
            self.assertEqual(raised(kinds_of, thing), ("BadGarden", {"thing": thing}))
            self.assertEqual(raised(judge_speed, thing), ("BadGarden", {"thing": thing}))
            self.assertEqual(raised(speed_holds, thing, None), ("BadGarden", {"thing": thing}))
        for thing in NO_BOOKS:
            self.assertEqual(raised(leads, thing, None, None), ("BadBook", {"thing": thing}))
        for thing in NO_INTEGERS + (-1, 2, 3, 10 ** 99):
            self.assertEqual(raised(leads, LONG, thing, None), ("BadKind", {"thing": thing}))
            self.assertEqual(raised(leads, LONG, 1, thing), ("BadKind", {"thing": thing}))
        self.assertEqual(raised(leads, LONG, -1, 2), ("BadKind", {"thing": -1}))
        self.assertEqual(raised(leads, LONG, 2, -1), ("BadKind", {"thing": 2}))


class Speeds(unittest.TestCase):
    """judge_speed and speed_holds [10.2]."""

    def check(self, garden, thing):
        self.assertIs(speed_holds(garden, thing), is_right(garden, thing), (garden, thing))

    def test_chosen_ones(self):
        for garden, word, number in SPEEDS:
            told = judge_speed(garden)
            self.assertEqual(told[0], word, garden)
            if number is not None:
                self.assertEqual(told[1], number, garden)

    def test_what_is_judged(self):
        for garden in ALL:
            told = judge_speed(garden)
            self.assertEqual(told, judge_speed(garden=garden))
            self.assertIs(speed_holds(garden, told), True, (garden, told))
            self.assertIs(speed_holds(thing=told, garden=garden), True)
            self.assertTrue(is_right(garden, told), (garden, told))

    def test_the_numbers_of_ties(self):
        for garden in ALL:
            told = judge_speed(garden)
            ties = [sum(ties_after(garden, n)) for n in (0, 1, 2, 3, 4, 3000, 6000)] if told[0] != "doubling" else None
            if told[0] == "dies":
                self.assertEqual(ties[4:], [0, 0, 0])
                self.assertEqual([n for n in range(5) if ties[n] == 0][0], told[1])
            elif told[0] == "degree":
                self.assertLess(2 ** told[1] * ties[5] * 0.9, ties[6])
                self.assertLess(ties[6], 2 ** told[1] * ties[5] * 1.1)
            else:
                _, c, one, _ = told
                ahead = [n for n in range(4) if ties_after(garden, n)[c] > 0][0]
                for n in range(ahead, 40):
                    self.assertGreaterEqual(sum(ties_after(garden, n)), 2 ** ((n - ahead) // len(one)))

    def test_all_short_certificates(self):
        for garden in [garden for garden, _, _ in SPEEDS] + thrown_gardens(60, 53, 3, 3):
            things = [("dies", n) for n in range(5)]
            for many in range(4):
                for chain in itertools.product(range(3), repeat=many):
                    things.extend([("degree", d, chain) for d in range(-1, 3)])
            for c in range(-1, 4):
                rows = [row for length in range(3) for row in itertools.product(range(3), repeat=length)]
                things.extend([("doubling", c, one, other) for one in rows for other in rows])
            for thing in things:
                self.check(garden, thing)

    def test_mutants(self):
        dice = random.Random(54)
        for garden in [garden for garden, _, _ in SPEEDS] + thrown_gardens(80, 55, 3, 3):
            for thing in some_mutants(judge_speed(garden), dice, 60):
                self.check(garden, thing)

    def test_longer_descents(self):
        garden = (TIE, LONG)
        for one, other, right in (
                ((0, 0, 0), (0, 1, 0), True), ((1, 0, 0), (0, 1, 0), True), ((1, 0, 1), (0, 1, 0), False), ((1, 0), (1, 0), False),
                ((0,), (1, 0), False), ((0,), (0,), False), ((), (), False), ((0, 0), [1, 0], False), ((0, False), (1, 0), False),
                ((0,) * 300, (0,) * 298 + (1, 0), True)):
            self.assertIs(speed_holds(garden, ("doubling", 0, one, other)), right)
        self.assertIs(speed_holds(garden, ("doubling", 1, (0, 0, 1), (0, 1, 0)), ), False)
        self.assertIs(speed_holds(garden, ("doubling", 1, (0, 0, 0, 1), (0, 1, 0, 1)), ), True)
        self.assertIs(speed_holds(garden, ("doubling", False, (0, 0), (1, 0))), False)
        # A kind that no tie of the start leads to does not count.
        self.assertIs(speed_holds((TIE, (TIE, (2, ((0, 1, 1), (0, 1, 1))))), ("doubling", 1, (0,), (1,))), False)
        self.assertIs(speed_holds((TIE_OF_ONE, (TIE, (2, ((0, 1, 1), (0, 1, 1))))), ("doubling", 1, (0,), (1,))), True)

    def test_any_value(self):
        for garden in ((TIE, LONG), (TIE, (TIE,)), (TIE, (BARE,)), (LONE, (TIE,))):
            for thing in STRANGE + NO_WISHES:
                self.assertIs(speed_holds(garden, thing), False, thing)


if __name__ == "__main__":
    unittest.main()
