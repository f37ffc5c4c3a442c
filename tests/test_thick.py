import itertools
import random
import unittest

from manydeep.rounds import one_round
from manydeep.thick import eye_renaming, is_even_ended, is_row, is_thick, judge_rows, product, read_back, rows_hold
from tests.anyvalues import BARE, FORKED, NO_GROWTHS, NO_WISHES, RING, ROW, STRANGE, TIE, TWICE, raised
from tests.assorted import DIAMOND, FULL, TRIANGLE, thrown_web
from tests.mutants import is_exactly, some_mutants
from tests.thickones import (FIVE, LOZENGE, PRISM, WHEEL, disguised, is_plain_even, is_plain_thick, is_same, leads_to,
                             made, renamings, thick_ones, turned)

# Thick, but not even-ended.
UNEVEN = (5, ((0, 2, 0), (0, 3, 0), (0, 4, 0), (1, 2, 0), (1, 3, 0), (2, 3, 0), (2, 4, 0), (3, 4, 0)))
OF_OTHER_KINDS = ((2, ((0, 1, 1),)), (4, ((0, 2, 0), (0, 3, 0), (1, 2, 0), (1, 3, 0), (2, 3, 2))), FORKED, TWICE)
NO_ROWS = NO_GROWTHS + (
    LOZENGE, [LOZENGE], (RING,), (LOZENGE, RING), (RING, LOZENGE), (UNEVEN,), (LOZENGE, UNEVEN), (LOZENGE, None), (None, LOZENGE), (TIE,), (BARE,),
    ((LOZENGE,),), (LOZENGE, [LOZENGE]), {0: LOZENGE}, (OF_OTHER_KINDS[1],), ((10 ** 99, ()),), (LOZENGE, (10 ** 99, ((0, 2, 0),))), (LOZENGE, True),
    ((4, LOZENGE[1] + ((2, 3, 0),)),), ((4, ((0, 1, 0),) + LOZENGE[1]),), ((4, LOZENGE[1][:-1]),), ((4, LOZENGE[1][::-1]),), (LOZENGE, ()), ((),),
)


def thrown_row(dice, many):
    return tuple(disguised(dice.choice(thick_ones()), dice) for _ in range(many))


def thrown_thick(dice):
    while True:
        growth = thrown_web(dice, dice.choice((4, 5, 5, 6)), dice.randint(5, 14), 1)
        if is_plain_thick(growth):
            return growth


class Eye(unittest.TestCase):
    """is_thick, is_even_ended, eye_renaming [13.1, 13.2]."""

    def test_examples(self):
        self.assertEqual(
            [is_thick(LOZENGE), is_even_ended(LOZENGE), is_thick(RING), product((LOZENGE,)) == LOZENGE, product((LOZENGE, LOZENGE))[0],
             len(read_back(product((LOZENGE, LOZENGE)))), read_back(RING), rows_hold((LOZENGE,), (LOZENGE,), ('same', ((0, 1, 2, 3),)))],
            [True, True, False, True, 14, 2, None, True])

    def test_thick_against_the_text(self):
        dice = random.Random(81)
        found = 0
        for _ in range(1500):
            growth = thrown_web(dice, dice.choice((2, 3, 4, 5, 5, 6)), dice.randint(0, 14), 1 if dice.random() < 0.9 else 2)
            if dice.random() < 0.8:
                growth = (growth[0], tuple(sorted({(min(a, b), max(a, b), c) for a, b, c in growth[1]} - {(0, 1, 0)})))
            self.assertIs(is_thick(growth), is_plain_thick(growth), growth)
            found += is_plain_thick(growth)
        self.assertGreater(found, 30)

    def test_all_of_five_places(self):
        choices = [pair for pair in itertools.combinations(range(5), 2)]
        found = 0
        for many in range(len(choices) + 1):
            for chosen in itertools.combinations(choices, many):
                growth = (5, tuple((a, b, 0) for a, b in chosen))
                self.assertIs(is_thick(growth), is_plain_thick(growth), growth)
                if is_plain_thick(growth):
                    self.assertIs(is_even_ended(growth), is_plain_even(growth))
                    found += 1
        self.assertGreater(found, 20)

    def test_thick_ones(self):
        self.assertGreater(len(thick_ones()), 6)
        for growth in thick_ones():
            self.assertIs(is_thick(growth), True)
            self.assertIs(is_even_ended(growth=growth), True)
        for growth, told in ((UNEVEN, True), (PRISM, True), (TIE, False), (BARE, False), (ROW, False), (TRIANGLE, False), (RING, False), (WHEEL, True),
                             (FULL, False), ((7, FULL[1][1:]), True), ((4, LOZENGE[1] + ((2, 3, 0),)), False), ((4, ((0, 1, 0),) + LOZENGE[1]), False),
                             ((4, tuple(sorted(LOZENGE[1] + ((3, 2, 0),)))), False), (OF_OTHER_KINDS[1], False), ((10 ** 99, ()), False)):
            self.assertIs(is_thick(growth), told, growth)
            self.assertIs(is_thick(growth=growth), told)
        self.assertIs(is_even_ended(UNEVEN), False)

    def test_even_ended_against_all_orders(self):
        dice = random.Random(82)
        both = set()
        for _ in range(300):
            growth = thrown_web(dice, dice.randint(2, 6), dice.randint(0, 8), 1)
            self.assertIs(is_even_ended(growth), is_plain_even(growth), growth)
            both.add(is_plain_even(growth))
        self.assertEqual(both, {True, False})
        self.assertIs(is_even_ended(TIE), True)
        self.assertIs(is_even_ended(BARE), True)
        self.assertIs(is_even_ended((3, ((0, 2, 0), (1, 2, 0)))), True)
        self.assertIs(is_even_ended((3, ((0, 2, 0),))), False)
        self.assertIs(is_even_ended((3, ((0, 2, 0), (0, 2, 0), (2, 1, 0)))), False)

    def test_renamings_against_all_orders(self):
        dice = random.Random(83)
        for _ in range(300):
            one = thrown_web(dice, dice.randint(2, 6), dice.randint(0, 9), 1)
            other = dice.choice((disguised(one, dice), turned(one), thrown_web(dice, one[0], len(one[1]), 1)))
            told = eye_renaming(one, other)
            self.assertEqual(told is not None, is_same(one, other), (one, other))
            if told is not None:
                self.assertIn(told, list(renamings(one)))
                self.assertTrue(leads_to(one, other, told))
            self.assertEqual(told, eye_renaming(other=other, one=one))
        self.assertEqual(eye_renaming(TIE, BARE), None)
        self.assertEqual(eye_renaming(TIE, (2, ((1, 0, 0),))), (0, 1))
        self.assertEqual(eye_renaming((2, ((0, 1, 0), (0, 1, 0))), (2, ((0, 1, 0), (1, 0, 0)))), (0, 1))
        self.assertEqual(eye_renaming((2, ((0, 1, 0), (0, 1, 0))), TIE), None)
        self.assertEqual(eye_renaming((3, ((0, 2, 0),)), (3, ((1, 2, 0),))), None)

    def test_wrong_arguments(self):
        for thing in NO_GROWTHS:
            self.assertEqual(raised(is_thick, thing), ("BadGrowth", {"thing": thing}))
            self.assertEqual(raised(is_even_ended, thing), ("BadGrowth", {"thing": thing}))
            self.assertEqual(raised(read_back, thing), ("BadGrowth", {"thing": thing}))
            self.assertEqual(raised(eye_renaming, thing, None), ("BadGrowth", {"thing": thing}))
            self.assertEqual(raised(eye_renaming, OF_OTHER_KINDS[0], thing), ("BadGrowth", {"thing": thing}))
        for growth in OF_OTHER_KINDS:
            self.assertEqual(raised(is_even_ended, growth), ("BadTies", {"thing": growth}))
            self.assertEqual(raised(read_back, growth), ("BadTies", {"thing": growth}))
            self.assertEqual(raised(eye_renaming, growth, OF_OTHER_KINDS[0]), ("BadTies", {"thing": growth}))
            self.assertEqual(raised(eye_renaming, LOZENGE, growth), ("BadTies", {"thing": growth}))


class Rows(unittest.TestCase):
    """is_row, product, judge_rows, rows_hold [13.2 to 13.4]."""

    def test_is_row(self):
        dice = random.Random(84)
        for many in range(1, 8):
            row = thrown_row(dice, many)
            self.assertIs(is_row(row), True)
            self.assertIs(is_row(thing=row), True)
        for thing in NO_ROWS:
            self.assertIs(is_row(thing), False, thing)
        for _ in range(40):
            growth = thrown_thick(dice)
            self.assertIs(is_row((growth,)), is_plain_even(growth))
            self.assertIs(is_row((LOZENGE, growth)), is_plain_even(growth))
        for thing in some_mutants((LOZENGE, FIVE), dice, 200):
            expected = isinstance(thing, tuple) and thing != () and all(is_mutant_right(growth) for growth in thing)
            self.assertIs(is_row(thing), expected, thing)

    def test_products(self):
        dice = random.Random(85)
        for _ in range(60):
            row = thrown_row(dice, dice.choice((1, 2, 2)))
            told = product(row)
            self.assertEqual(told, product(row=row))
            self.assertEqual(told, row[0] if len(row) == 1 else one_round(row[0], (row[1],)))
            self.assertEqual((told[0], len(told[1])), (made(row)[0], len(made(row)[1])))
            self.assertIs(is_even_ended(told), True)
        self.assertEqual(product((LOZENGE,) * 3), one_round(one_round(LOZENGE, (LOZENGE,)), (LOZENGE,)))
        self.assertEqual(product((LOZENGE,) * 3)[0], 64)
        # Turning ties about changes nothing that the eye sees.
        for _ in range(20):
            row = thrown_row(dice, 2)
            other = tuple(disguised(growth, dice) for growth in row)
            self.assertIsNotNone(eye_renaming(product(row), product(other)))

    def test_too_many(self):
        great = (6, tuple((a, b, 0) for a, b in itertools.combinations(range(6), 2) if (a, b) != (0, 1)))
        self.assertEqual(product((great, great))[0], 6 + 14 * 4)
        self.assertEqual(raised(product, (great, great, great)), ("TooMany", {"most": 400}))
        self.assertEqual(raised(product, (LOZENGE,) * 4), ("TooMany", {"most": 600}))
        self.assertEqual(raised(product, (FIVE,) * 3), ("TooMany", {"most": 600}))
        self.assertEqual(raised(product, (great,) * 30), ("TooMany", {"most": 400}))

    def test_certificates(self):
        dice = random.Random(86)
        words = {}
        for _ in range(200):
            one = thrown_row(dice, dice.randint(1, 3))
            other = tuple(disguised(growth, dice) for growth in one) if dice.random() < 0.5 else thrown_row(dice, dice.randint(1, 3))
            if dice.random() < 0.3:
                other = tuple(disguised(growth, dice) for growth in one[:2]) + other[2:]
            told = judge_rows(one, other)
            self.assertEqual(told, judge_rows(other=other, one=one))
            self.assertTrue(self.is_right(one, other, told), (one, other, told))
            self.assertIs(rows_hold(one, other, told), True)
            self.assertIs(rows_hold(thing=told, other=other, one=one), True)
            for i in range(-1, 5):
                self.assertIs(rows_hold(one, other, ("apart", i)), self.is_right(one, other, ("apart", i)))
            for thing in some_mutants(told, dice, 30):
                self.assertIs(rows_hold(one, other, thing), self.is_right(one, other, thing), (one, other, thing))
            words[told[0]] = words.get(told[0], 0) + 1
        self.assertEqual(set(words), {"same", "apart"})

    def test_all_renamings(self):
        for growth in (LOZENGE, FIVE, WHEEL):
            other = disguised(growth, random.Random(87))
            for renaming in itertools.permutations(range(growth[0])):
                expected = renaming[:2] == (0, 1) and leads_to(growth, other, renaming)
                self.assertIs(rows_hold((LOZENGE, growth), (LOZENGE, other), ("same", ((0, 1, 3, 2), renaming))), expected)

    def is_right(self, one, other, thing):
        """What 13.4 says, word by word."""
        if not isinstance(thing, tuple) or len(thing) != 2:
            return False
        same = [is_same(mine, others) for mine, others in zip(one, other)]
        if is_exactly(thing[0], "apart"):
            least = same.index(False) if False in same else len(same) if len(one) != len(other) else None
            return least is not None and is_exactly(thing[1], least)
        if not is_exactly(thing[0], "same") or not isinstance(thing[1], tuple) or not len(thing[1]) == len(one) == len(other):
            return False
        for mine, others, renaming in zip(one, other, thing[1]):
            if not any(is_exactly(renaming, right) for right in renamings(mine) if leads_to(mine, others, right)):
                return False
        return True

    def test_any_value(self):
        for thing in STRANGE + NO_WISHES + ((), ("same", ()), ("apart", None), ("apart", 0), ("apart", 1), ("same", ((0, 1, 2, 4),))):
            self.assertIs(rows_hold((LOZENGE,), (LOZENGE,), thing), False, thing)
        for thing in STRANGE + NO_WISHES + (("apart", False), ("apart", 1), ("same", ((0, 1, 2, 3),)), ("same", (None,))):
            self.assertIs(rows_hold((LOZENGE,), (FIVE,), thing), False, thing)

    def test_wrong_arguments(self):
        for thing in NO_ROWS:
            self.assertEqual(raised(product, thing), ("BadRow", {"thing": thing}))
            for function, rest in ((judge_rows, ()), (rows_hold, (None,))):
                self.assertEqual(raised(function, thing, None, *rest), ("BadRow", {"thing": thing}))
                self.assertEqual(raised(function, (LOZENGE,), thing, *rest), ("BadRow", {"thing": thing}))


def is_mutant_right(growth):
    """Whether a value is a thick and even-ended growth."""
    if not isinstance(growth, tuple) or len(growth) != 2 or type(growth[0]) is not int or not isinstance(growth[1], tuple):
        return False
    for tie in growth[1]:
        if not isinstance(tie, tuple) or len(tie) != 3 or any(type(item) is not int for item in tie):
            return False
        if not (0 <= tie[0] < growth[0] and 0 <= tie[1] < growth[0] and tie[0] != tie[1] and tie[2] == 0):
            return False
    return growth[1] == tuple(sorted(growth[1])) and 2 <= growth[0] < 10 and is_plain_thick(growth) and is_plain_even(growth)


class ReadBack(unittest.TestCase):
    """read_back [13.4]."""

    def check(self, row, growth):
        found = read_back(growth)
        self.assertIsNotNone(found, row)
        self.assertIs(is_row(found), True)
        self.assertEqual(len(found), len(row))
        for mine, others in zip(row, found):
            self.assertTrue(is_same(mine, others), (row, found))
        self.assertEqual(judge_rows(row, found)[0], "same")

    def test_rows_read_back(self):
        dice = random.Random(88)
        for _ in range(120):
            row = thrown_row(dice, dice.choice((1, 2, 2, 2)))
            growth = made(row)
            if growth[0] <= 70 and len(growth[1]) <= 130:
                self.check(row, growth)
                self.check(row, disguised(growth, dice))
                self.check(row, turned(disguised(growth, dice)))
        for _ in range(10):
            row = tuple(disguised(LOZENGE, dice) for _ in range(3))
            self.check(row, disguised(made(row), dice))
        self.assertEqual(len(read_back(growth=made((LOZENGE, WHEEL)))), 2)

    def test_the_product_is_the_same_to_the_eye(self):
        dice = random.Random(89)
        for _ in range(40):
            growth = disguised(made(thrown_row(dice, dice.choice((1, 2)))), dice)
            if len(growth[1]) <= 130:
                self.assertIsNotNone(eye_renaming(product(read_back(growth)), growth))

    def test_not_products(self):
        dice = random.Random(90)
        for growth in (TIE, BARE, ROW, RING, DIAMOND, UNEVEN, (5, ()), (4, ((0, 2, 0), (0, 3, 0), (1, 2, 0), (1, 3, 0))), (2, ((0, 1, 0),) * 3)):
            self.assertIs(read_back(growth), None)
        # One tie more, one fewer, one led to elsewhere; pieces that are not all alike; pieces that are not even-ended.
        for _ in range(60):
            row = thrown_row(dice, 2)
            growth = made(row)
            if growth[0] > 70 or len(growth[1]) > 130:
                continue
            ties = list(growth[1])
            fewer = (growth[0], tuple(ties[:3] + ties[4:]))
            led_away = (growth[0], tuple(ties[:3] + ties[4:]) + ((0, 1, 0),))
            a, b = dice.sample(range(growth[0]), 2)
            for other in (fewer, (growth[0], tuple(sorted(ties + [(a, b, 0)]))), (growth[0] + 1, growth[1]), led_away):
                other = (other[0], tuple(sorted(other[1])))
                self.assertIs(read_back(other), None, other)
        self.assertIs(read_back(self.put_in_some(LOZENGE, [WHEEL, LOZENGE, WHEEL, WHEEL, WHEEL])), None)
        self.assertIs(read_back(self.put_in_some(LOZENGE, [UNEVEN] * 5)), None)
        self.assertIs(read_back(self.put_in_some(UNEVEN, [LOZENGE] * 8)), None)
        self.assertIs(read_back(self.put_in_some(RING, [LOZENGE] * 4)), None)
        self.assertIs(read_back(self.put_in_some(LOZENGE, [LOZENGE] * 4 + [TIE])), None)
        self.assertIsNotNone(read_back(self.put_in_some(LOZENGE, [LOZENGE] * 5)))

    def test_rows_of_places(self):
        # What hangs on two places overlaps here, however the places are called.
        for many in (3, 4, 5):
            for order in itertools.permutations(range(2, many + 2)):
                row = (0,) + order + (1,)
                line = tuple((one, other, 0) for one, other in zip(row, row[1:]))
                for more in ((), ((0, 1, 0),), ((0, order[0], 0),), ((0, order[1], 0),), ((order[0], 1, 0), (order[0], order[2], 0))):
                    self.assertIs(read_back((many + 2, tuple(sorted(line + more)))), None)

    def put_in_some(self, web, growths):
        """The web in which each tie gives way to a growth of its own."""
        places, ties = web[0], []
        for (a, b, _), growth in zip(web[1], growths):
            names = [a, b] + list(range(places, places + growth[0] - 2))
            places += growth[0] - 2
            ties.extend((names[x], names[y], 0) for x, y, _ in growth[1])
        return (places, tuple(sorted(ties)))

    def test_thrown_ones(self):
        dice = random.Random(91)
        for _ in range(300):
            growth = thrown_web(dice, dice.randint(2, 7), dice.randint(0, 14), 1)
            found = read_back(growth)
            expected = is_plain_thick(growth) and is_plain_even(growth)
            self.assertEqual(found is not None, expected, growth)
            if expected:
                self.assertTrue(len(found) == 1 and is_same(found[0], growth))

    def test_great_ones(self):
        dice = random.Random(92)
        # A long ladder with both ends closed: thick, and the same from both ends.
        for many in (5, 20, 34):
            rungs = [(2 * at, 2 * at + 1) for at in range(1, many + 1)]
            sides = [(place, place + 2) for place in range(2, 2 * many)]
            growth = (2 * many + 2, tuple(sorted((a, b, 0) for a, b in rungs[1:-1] + sides + [(0, 2), (1, 3), (2 * many, 2 * many + 1), (0, 3), (1, 2)])))
            self.assertEqual(read_back(growth) is not None, is_thick(growth) and is_even_ended(growth))
        prism = (70, tuple(sorted(self.prism(35))))
        self.assertIs(is_thick(prism), True)
        self.assertIs(is_even_ended(prism), True)
        found = read_back(disguised(prism, dice))
        self.assertEqual(len(found), 1)
        for _ in range(6):
            growth = thrown_web(dice, 70, 130, 1)
            self.assertIs(read_back(growth), None)
        # Products of growths that are greater than those in rows that are passed.
        for many in (4, 5, 8):
            great = (2 * many, tuple(sorted(self.prism(many))))
            for row in ((great, LOZENGE), (LOZENGE, great), (great, FIVE), (WHEEL, great)):
                growth = disguised(made(row), dice)
                if growth[0] <= 70 and len(growth[1]) <= 130:
                    found = read_back(growth)
                    self.assertEqual([(mine[0], len(mine[1])) for mine in found], [(mine[0], len(mine[1])) for mine in row])
                    self.assertIsNotNone(eye_renaming(made(found), growth))

    def prism(self, many):
        """The ties of two rings, each place of the one tied to one of the other, but for the tie from 0 to 1."""
        ring = [0, 1] + list(range(4, 2 * many, 2))
        other = [2, 3] + list(range(5, 2 * many, 2))
        rings = [(row[at], row[(at + 1) % many]) for row in (ring, other) for at in range(many)]
        return [(min(a, b), max(a, b), 0) for a, b in rings + list(zip(ring, other)) if (min(a, b), max(a, b)) != (0, 1)]


if __name__ == "__main__":
    unittest.main()
