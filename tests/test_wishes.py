import itertools
import random
import unittest

from manydeep.wishes import does_hold, is_wish
from tests import plainly
from tests.anyvalues import BARE, FORKED, LONE, NO_WEBS, NO_WISHES, RING, ROW, TIE, TWICE, WEBS, WIDE, raised
from tests.assorted import (DIAMOND, FULL, JOINT, LOOSE, PLAIN, TRIANGLE, WISHES, thrown_plain, thrown_web, thrown_wish)

TWO_TIES = (2, ((0, 1, 0), (0, 1, 0)))
STAR = (4, ((0, 1, 0), (0, 2, 0), (0, 3, 0)))
HOUSE = (5, ((0, 1, 0), (0, 4, 0), (1, 2, 0), (1, 4, 0), (2, 3, 0), (3, 4, 0)))
# Two triangles that have a place in common, and two that a tie joins.
BOW = (5, ((0, 1, 0), (0, 2, 0), (1, 2, 0), (2, 3, 0), (2, 4, 0), (3, 4, 0)))
BELL = (6, ((0, 1, 0), (0, 2, 0), (1, 2, 0), (2, 3, 0), (3, 4, 0), (3, 5, 0), (4, 5, 0)))
PETERSEN = (10, tuple(sorted(
    [(place, (place + 1) % 5, 0) for place in range(5)] + [(place, place + 5, 0) for place in range(5)]
    + [(place + 5, (place + 2) % 5 + 5, 0) for place in range(5)])))
RING_OF_14 = (14, tuple(sorted((place, (place + 1) % 14, 0) for place in range(14))))


class Wishes(unittest.TestCase):
    """is_wish [4.2]."""

    def test_plain_wishes(self):
        right = [(word,) for word in ("joined", "sided", "paired", "round", "ringed", "whole", "even")]
        right += [("hues", k) for k in range(1, 6)]
        right += [("number", c, m, r) for c in range(3) for m in range(2, 13) for r in range(m)]
        right += [("far", 0, 1, d) for d in range(1, 13)] + [("far", 10 ** 99, 0, 12), ("far", 7, 6, 1)]
        right += [("apart", 0, 1, c) for c in range(1, 7)] + [("apart", 0, 10 ** 99, 6), ("apart", 7, 6, 1)]
        for wish in right:
            self.assertIs(is_wish(wish), True, wish)
            self.assertIs(is_wish(thing=wish), True)

    def test_joint_wishes(self):
        for one in WISHES:
            self.assertIs(is_wish(("not", one)), True)
            for other in WISHES:
                for word in ("and", "or"):
                    self.assertIs(is_wish((word, one, other)), True)

    def test_no_wishes(self):
        for thing in NO_WISHES:
            self.assertIs(is_wish(thing), False, thing)
            self.assertIs(is_wish(thing=thing), False)
            self.assertIs(is_wish(("not", thing)), False)
            self.assertIs(is_wish(("and", ("joined",), thing)), False)
            self.assertIs(is_wish(("or", thing, ("joined",))), False)

    def test_numbers_at_their_bounds(self):
        for k in range(-1, 8):
            self.assertIs(is_wish(("hues", k)), 1 <= k <= 5)
            for m in range(-1, 15):
                self.assertIs(is_wish(("number", k, m, 0)), 0 <= k <= 2 and 2 <= m <= 12)
                self.assertIs(is_wish(("number", 1, m, k)), 2 <= m <= 12 and 0 <= k < m)
            for d in range(-1, 15):
                self.assertIs(is_wish(("far", k, 3, d)), k >= 0 and k != 3 and 1 <= d <= 12)
                self.assertIs(is_wish(("apart", 3, k, d)), k >= 0 and k != 3 and 1 <= d <= 6)

    def test_other_lengths(self):
        for wish in WISHES:
            for wrong in (wish[:-1], wish + (0,), wish + (None,), wish + (("joined",),), list(wish), wish[1:], (wish,)):
                # Only a wish that is told by `not` may end up as the wish in it.
                self.assertIs(is_wish(wrong), False, wrong)

    def test_of_any_size(self):
        deep, wide = ("joined",), ("hues", 2)
        for _ in range(20000):
            deep = ("not", deep)
        for _ in range(3000):
            wide = ("and", wide, ("or", ("joined",), ("even",)))
        self.assertIs(is_wish(deep), True)
        self.assertIs(is_wish(wide), True)
        deep, wide = ("joined", 0), ("hues", 6)
        for _ in range(20000):
            deep = ("not", deep)
        for _ in range(3000):
            wide = ("and", wide, ("or", ("joined",), ("even",)))
        self.assertIs(is_wish(deep), False)
        self.assertIs(is_wish(wide), False)


class Holding(unittest.TestCase):
    """does_hold [4.1, 4.2]."""

    def check(self, wish, right, wrong):
        for web in right:
            self.assertIs(does_hold(web, wish), True, (web, wish))
            self.assertIs(does_hold(web, ("not", wish)), False)
        for web in wrong:
            self.assertIs(does_hold(web, wish), False, (web, wish))
            self.assertIs(does_hold(wish=("not", wish), web=web), True)

    def test_examples(self):
        wishes = (('joined',), ('sided',), ('hues', 3), ('paired',), ('round',), ('ringed',), ('whole',), ('even',),
                  ('apart', 0, 2, 2))
        self.assertEqual([does_hold(TRIANGLE, wish) for wish in wishes],
                         [True, False, True, False, True, True, True, True, True])
        self.assertEqual([does_hold(TIE, ('whole',)), does_hold(TIE, ('far', 0, 1, 2)), does_hold(TIE, ('number', 0, 2, 1)),
                          does_hold(TIE, ('not', ('round',)))], [True, False, True, True])

    def test_joined(self):
        self.check(("joined",), (LONE, TIE, FORKED, RING, WIDE, BOW), (BARE, LOOSE, (3, ((0, 1, 0),)), (3, ((1, 2, 2),))))

    def test_sided(self):
        self.check(("sided",), (LONE, BARE, TIE, TWICE, TWO_TIES, RING, WIDE, LOOSE, STAR), (TRIANGLE, HOUSE, BOW, PETERSEN))
        self.check(("sided",), (), ((5, ((2, 3, 0), (2, 4, 1), (4, 3, 2))),))

    def test_hues(self):
        self.check(("hues", 1), (LONE, BARE, (14, ())), (TIE, LOOSE))
        self.check(("hues", 2), (LONE, TIE, TWICE, RING), (TRIANGLE, HOUSE, PETERSEN))
        self.check(("hues", 3), (TRIANGLE, HOUSE, PETERSEN, BOW), (FULL, full(4), full(5)))
        self.check(("hues", 4), (full(4), LONE, PETERSEN), (full(5), FULL))
        self.check(("hues", 5), (full(5), BARE), (full(6), FULL, (14, full(6)[1])))

    def test_paired(self):
        self.check(("paired",), (TIE, TWICE, RING, LOOSE, PETERSEN, WIDE, BELL), (LONE, BARE, ROW, TRIANGLE, STAR, BOW, HOUSE))
        self.check(("paired",), (), ((14, tuple((place, 13, 0) for place in range(13))), (4, ((0, 1, 0),))))

    def test_round(self):
        self.check(("round",), (TWO_TIES, TWICE, TRIANGLE, RING, HOUSE, RING_OF_14, full(7)), (
            LONE, BARE, TIE, ROW, STAR, BOW, BELL, PETERSEN, WIDE, LOOSE, (3, ((0, 1, 0), (0, 1, 0), (1, 2, 0), (1, 2, 0)))))
        # A ring goes over ties in whichever direction.
        self.check(("round",), ((3, ((0, 1, 0), (0, 2, 1), (1, 2, 2))), (2, ((0, 1, 0), (1, 0, 0)))), ())

    def test_ringed(self):
        self.check(("ringed",), (LONE, BARE, TWO_TIES, TWICE, TRIANGLE, BOW, PETERSEN, (5, TRIANGLE[1])), (
            TIE, ROW, BELL, (3, TWO_TIES[1] + ((1, 2, 0),)), (5, TRIANGLE[1] + ((3, 4, 0),)), WIDE))

    def test_whole(self):
        self.check(("whole",), (TIE, TWICE, TRIANGLE, HOUSE, PETERSEN, RING_OF_14), (
            LONE, BARE, ROW, BOW, BELL, LOOSE, STAR, (4, TRIANGLE[1]), (3, ((0, 1, 0), (0, 1, 0), (0, 2, 0), (0, 2, 0)))))

    def test_even(self):
        self.check(("even",), (LONE, BARE, TWO_TIES, TRIANGLE, BOW, RING, full(5)), (TIE, TWICE, STAR, full(4), HOUSE))

    def test_number(self):
        web = (3, ((0, 1, 0), (0, 1, 0), (0, 2, 1), (1, 0, 0), (1, 2, 1)))
        for m in range(2, 13):
            for r in range(m):
                self.assertIs(does_hold(web, ("number", 0, m, r)), 3 % m == r)
                self.assertIs(does_hold(web, ("number", 1, m, r)), 2 % m == r)
                self.assertIs(does_hold(web, ("number", 2, m, r)), r == 0)
        self.check(("number", 0, 12, 0), (LONE, (2, TIE[1] * 12), (2, TIE[1] * 24)), (TIE, (2, TIE[1] * 11)))

    def test_far(self):
        for d in range(1, 13):
            self.assertIs(does_hold(WIDE, ("far", 1, 0, d)), d == 1)
            self.assertIs(does_hold(WIDE, ("far", 0, 12, d)), True)
            self.assertIs(does_hold(WIDE, ("far", 9, 3, d)), d <= 6)
            self.assertIs(does_hold(RING_OF_14, ("far", 0, 7, d)), d <= 7)
        # No way at all is far enough; but both have to be places.
        self.check(("far", 0, 1, 12), (BARE, (4, ((2, 3, 0),)), (3, ((1, 2, 0),))), (TIE, LONE, RING, ROW))
        self.check(("far", 1, 2, 1), (RING, ROW, (3, ())), (TIE, BARE, LONE))
        self.check(("far", 2, 1, 1), (RING, ROW, (3, ())), (TIE, BARE, LONE))
        self.check(("far", 0, 10 ** 99, 1), (), (TIE, BARE, WIDE))

    def test_apart(self):
        for c in range(1, 7):
            self.assertIs(does_hold(full(7), ("apart", 3, 5, c)), True)
            self.assertIs(does_hold(full(6), ("apart", 3, 5, c)), c <= 5)
            self.assertIs(does_hold((2, TIE[1] * 3), ("apart", 1, 0, c)), c <= 3)
            self.assertIs(does_hold((2, TIE[1] * 24), ("apart", 1, 0, c)), True)
            self.assertIs(does_hold(PETERSEN, ("apart", 0, 7, c)), c <= 3)
        # The ways may have places in common, but no ties.
        self.check(("apart", 0, 4, 2), (BOW, (5, ((0, 2, 0), (0, 2, 0), (2, 4, 0), (4, 2, 0)))), (BELL, WIDE))
        self.check(("apart", 0, 2, 1), (ROW, TRIANGLE), (TIE, BARE, LONE, (3, ()), (3, ((0, 1, 0),))))
        self.check(("apart", 2, 0, 1), (ROW, TRIANGLE), (TIE, BARE, LONE, (3, ()), (3, ((0, 1, 0),))))

    def test_and_or_not(self):
        for web in (LONE, TIE, TRIANGLE, RING):
            for one, other in itertools.product(PLAIN, repeat=2):
                mine, others = does_hold(web, one), does_hold(web, other)
                self.assertIs(does_hold(web, ("and", one, other)), mine and others)
                self.assertIs(does_hold(web, ("or", one, other)), mine or others)
                self.assertIs(does_hold(web, ("not", ("and", one, ("not", other)))), not mine or others)

    def test_which_way_ties_run_and_of_what_kind_they_are_does_not_matter(self):
        dice = random.Random(8)
        for _ in range(60):
            web = thrown_web(dice, dice.randint(2, 6), dice.randint(0, 8), 3)
            turned = (web[0], tuple(sorted((max(tie[:2]), min(tie[:2]), 2 - tie[2]) for tie in web[1])))
            for wish in PLAIN:
                if wish[0] != "number":
                    self.assertIs(does_hold(web, wish), does_hold(turned, wish))

    def test_against_a_plain_search(self):
        dice = random.Random(9)
        for _ in range(1500):
            web = thrown_web(dice, dice.randint(1, 6), dice.randint(0, 9), 3)
            wish = thrown_plain(dice, web[0] + 1)
            self.assertIs(does_hold(web, wish), plainly.holds(web, wish), (web, wish))
        for _ in range(300):
            web = thrown_web(dice, dice.randint(1, 5), dice.randint(0, 7), 3)
            wish = thrown_wish(dice, web[0], 3)
            self.assertIs(does_hold(wish=wish, web=web), plainly.holds(web, wish), (web, wish))

    def test_all_webs_of_few_places_against_a_plain_search(self):
        wishes = [wish for wish in PLAIN if wish[0] != "number"]
        for places, many in ((2, 4), (3, 5), (4, 4)):
            pairs = list(itertools.combinations(range(places), 2))
            for most in range(many + 1):
                for chosen in itertools.combinations_with_replacement(pairs, most):
                    web = (places, tuple((one, other, 0) for one, other in chosen))
                    for wish in wishes:
                        self.assertIs(does_hold(web, wish), plainly.holds(web, wish), (web, wish))

    def test_webs_at_the_limits(self):
        dice = random.Random(10)
        for _ in range(150):
            web = thrown_web(dice, 14, 24, 3)
            # A ring and a pairing are hidden in the second web, hues in the third one.
            order = dice.sample(range(14), 14)
            ring = [(one, other, 0) for one, other in zip(order, order[1:] + order[:1])]
            hidden = (14, tuple(sorted(ring + list(thrown_web(dice, 14, 10, 1)[1]))))
            for wish in (("round",), ("paired",), ("whole",), ("ringed",), ("joined",)):
                self.assertIs(does_hold(hidden, wish), True)
            hued = (14, tuple(tie for tie in web[1] if tie[0] % 3 != tie[1] % 3))
            self.assertIs(does_hold(hued, ("hues", 3)), True)
            for wish in PLAIN:
                self.assertIn(does_hold(web, wish), (True, False))
            self.assertIs(does_hold((14, tuple(sorted(full(5)[1] + thrown_web(dice, 14, 14, 1)[1]))), ("hues", 4)), False)

    def test_wrong_arguments(self):
        for thing in NO_WEBS:
            self.assertEqual(raised(does_hold, thing, ("joined",)), ("BadWeb", {"thing": thing}))
            self.assertEqual(raised(does_hold, thing, None), ("BadWeb", {"thing": thing}))
        for thing in NO_WISHES:
            self.assertEqual(raised(does_hold, TIE, thing), ("BadWish", {"thing": thing}))
            self.assertEqual(raised(does_hold, wish=thing, web=LONE), ("BadWish", {"thing": thing}))


def full(places):
    """The web in which each place has a tie to each other one."""
    return (places, tuple((one, other, 0) for one in range(places) for other in range(one + 1, places)))


if __name__ == "__main__":
    unittest.main()
