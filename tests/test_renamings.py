import itertools
import unittest

from manydeep.webs import growth_renaming, led, renaming_between
from tests.anyvalues import BARE, FORKED, LONE, NO_GROWTHS, NO_WEBS, RING, ROW, TIE, TWICE, WEBS, WIDE, raised


def ring(*lengths):
    """A web of rings of these lengths, one beside the other."""
    ties, first = [], 0
    for length in lengths:
        ties.extend((first + step, first + (step + 1) % length, 0) for step in range(length))
        first += length
    return (first, tuple(sorted(ties)))


def small_webs(places, most):
    """All webs of so many places and at most so many ties of the kinds 0 and 1."""
    ties = [(a, b, c) for a in range(places) for b in range(places) for c in range(2) if a != b]
    for many in range(most + 1):
        for chosen in itertools.combinations_with_replacement(ties, many):
            yield (places, chosen)


def leads(one, other, fixed):
    """Whether some renaming that leaves the first so many places leads one web to the other, by trying all."""
    if one[0] != other[0]:
        return False
    kept = tuple(range(fixed))
    return any(led(one, kept + rest) == other for rest in itertools.permutations(range(fixed, one[0])))


# Two webs of 9 places and 18 ties, of 4 ties at each place, that are not alike.
ROOK = (9, tuple(sorted((a, b, 0) for a in range(9) for b in range(a + 1, 9) if a // 3 == b // 3 or a % 3 == b % 3)))
CIRCLE = (9, tuple(sorted((a, b, 0) for a in range(9) for b in range(a + 1, 9) if min(b - a, 9 - b + a) in (1, 2))))


class Renamings(unittest.TestCase):
    """renaming_between and growth_renaming [1.3]."""

    def check(self, one, other, there_is_one):
        found = renaming_between(one, other)
        if there_is_one:
            self.assertEqual(led(one, found), other)
        else:
            self.assertIsNone(found, (one, other))

    def check_growths(self, one, other, there_is_one):
        found = growth_renaming(one, other)
        if there_is_one:
            self.assertEqual((found[:2], led(one, found)), ((0, 1), other))
        else:
            self.assertIsNone(found, (one, other))

    def test_all_small_webs_against_trying_all_renamings(self):
        for places, most in ((1, 0), (2, 3), (3, 2)):
            webs = list(small_webs(places, most))
            for one in webs:
                for other in webs:
                    if len(one[1]) == len(other[1]):
                        self.check(one, other, leads(one, other, 0))
                        if places > 1:
                            self.check_growths(one, other, leads(one, other, 2))

    def test_webs_of_four_places_against_trying_all_renamings(self):
        webs = list(small_webs(4, 2))[::5] + [RING, (4, ((0, 1, 0), (0, 1, 0), (2, 3, 0), (2, 3, 0)))]
        for one in webs:
            for other in webs:
                self.check(one, other, leads(one, other, 0))
                self.check_growths(one, other, leads(one, other, 2))

    def test_each_renaming_of_a_web_is_undone(self):
        for web in (FORKED, ROW, RING, TWICE, (4, ()), (4, ((0, 1, 0), (2, 3, 1))), (4, ((0, 1, 0), (1, 0, 0), (2, 3, 2)))):
            for renaming in itertools.permutations(range(web[0])):
                self.check(web, led(web, renaming), True)
                if renaming[:2] == (0, 1):
                    self.check_growths(web, led(web, renaming), True)

    def test_edges(self):
        self.assertEqual(renaming_between(LONE, LONE), (0,))
        self.assertEqual(growth_renaming(BARE, BARE), (0, 1))
        self.assertEqual(growth_renaming(TIE, TIE), (0, 1))
        self.assertEqual(renaming_between(TIE, (2, ((1, 0, 0),))), (1, 0))
        self.assertIsNone(growth_renaming(TIE, (2, ((1, 0, 0),))))
        self.assertIsNone(renaming_between(LONE, BARE))
        self.assertIsNone(growth_renaming(BARE, (3, ())))
        self.assertIsNone(renaming_between(BARE, TIE))
        self.check((9, ()), (9, ()), True)
        self.check_growths((9, ()), (9, ()), True)

    def test_kinds_directions_and_repeats_tell_webs_apart(self):
        self.assertIsNone(renaming_between(TIE, (2, ((0, 1, 1),))))
        self.assertIsNone(renaming_between((2, ((0, 1, 0), (0, 1, 0))), TIE))
        self.assertIsNone(renaming_between((2, ((0, 1, 0), (0, 1, 0))), (2, ((0, 1, 0), (1, 0, 0)))))
        self.assertIsNone(renaming_between((2, ((0, 1, 0), (0, 1, 1))), (2, ((0, 1, 0), (1, 0, 1)))))
        self.assertIsNone(renaming_between((2, ((0, 1, 0), (0, 1, 0), (0, 1, 1))), (2, ((0, 1, 0), (0, 1, 1), (0, 1, 1)))))
        self.assertIsNone(renaming_between(ROW, (3, ((0, 1, 0), (0, 2, 0)))))
        self.assertEqual(renaming_between((2, ((0, 1, 0), (1, 0, 1))), (2, ((0, 1, 1), (1, 0, 0)))), (1, 0))

    def test_ends_stay_where_they_are(self):
        one, other = (4, ((0, 2, 0), (1, 3, 0))), (4, ((0, 3, 0), (1, 2, 0)))
        self.assertEqual(growth_renaming(one, other), (0, 1, 3, 2))
        self.assertIsNone(growth_renaming((3, ((0, 2, 0),)), (3, ((1, 2, 0),))))
        self.check((3, ((0, 2, 0),)), (3, ((1, 2, 0),)), True)
        self.assertIsNone(growth_renaming((4, ((2, 3, 0),)), (4, ((0, 1, 0),))))

    def test_nine_places(self):
        turned = (3, 1, 4, 8, 5, 0, 2, 6, 7)
        for web in (ROOK, CIRCLE, ring(9), ring(3, 6), ring(4, 5), ring(3, 3, 3), ring(2, 2, 2, 3)):
            self.check(web, led(web, turned), True)
            self.check_growths(led(web, (0, 1, 5, 8, 2, 3, 7, 6, 4)), web, True)
        rings = (ring(9), ring(3, 6), ring(4, 5), ring(3, 3, 3), ring(2, 2, 2, 3), ring(2, 7), ring(2, 3, 4))
        for one, other in itertools.permutations(rings, 2):
            self.check(one, led(other, turned), False)
            self.check_growths(one, other, False)
        self.check(ROOK, CIRCLE, False)
        self.check_growths(CIRCLE, ROOK, False)

    def test_the_same_call_gives_the_same_result(self):
        for web in (ROOK, RING, (9, ())):
            self.assertEqual(renaming_between(web, web), renaming_between(web, web))
            self.assertEqual(growth_renaming(web, web), growth_renaming(web, web))

    def test_webs_of_more_places(self):
        self.check(WIDE, led(WIDE, tuple(reversed(range(14)))), True)
        self.check(ring(7, 7), ring(14), False)
        self.check((14, ()), (14, ()), True)

    def test_by_name(self):
        self.assertEqual(renaming_between(one=TIE, other=TIE), (0, 1))
        self.assertEqual(growth_renaming(other=TIE, one=TIE), (0, 1))

    def test_wrong_webs(self):
        for thing in NO_WEBS:
            self.assertEqual(raised(renaming_between, thing, TIE), ("BadWeb", {"thing": thing}))
            self.assertEqual(raised(renaming_between, TIE, thing), ("BadWeb", {"thing": thing}))
            self.assertEqual(raised(renaming_between, one=WEBS[0], other=thing), ("BadWeb", {"thing": thing}))

    def test_wrong_growths(self):
        for thing in NO_GROWTHS:
            self.assertEqual(raised(growth_renaming, thing, TIE), ("BadGrowth", {"thing": thing}))
            self.assertEqual(raised(growth_renaming, TIE, thing), ("BadGrowth", {"thing": thing}))
            self.assertEqual(raised(growth_renaming, one=RING, other=thing), ("BadGrowth", {"thing": thing}))

    def test_both_arguments_wrong(self):
        self.assertEqual(raised(renaming_between, (0, ()), None), ("BadWeb", {"thing": (0, ())}))
        self.assertEqual(raised(renaming_between, other=(0, ()), one=None), ("BadWeb", {"thing": None}))
        self.assertEqual(raised(growth_renaming, LONE, None), ("BadGrowth", {"thing": LONE}))
        self.assertEqual(raised(growth_renaming, None, LONE), ("BadGrowth", {"thing": None}))
        self.assertEqual(raised(growth_renaming, LONE, (1, ((0, 1, 0),))), ("BadGrowth", {"thing": LONE}))


if __name__ == "__main__":
    unittest.main()
