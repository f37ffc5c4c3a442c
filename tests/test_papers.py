import itertools
import random
import unittest

from manydeep.rounds import grown
from manydeep.wishes import does_hold, judge_plain, plain_holds
from tests import plainly
from tests.anyvalues import BARE, LONE, NO_WEBS, NO_WISHES, RING, ROW, STRANGE, TIE, TWICE, WIDE, raised
from tests.assorted import CHOSEN, DIAMOND, JOINT, LOOSE, PLAIN, TRIANGLE, thrown_plain, thrown_web

WORDS = ("joined", "sided", "hues", "paired", "round", "far")
PAPERED = tuple(wish for wish in PLAIN if wish[0] in WORDS)
OTHERS = tuple(wish for wish in PLAIN + JOINT if wish[0] not in WORDS)
TWO_TIES = (2, ((0, 1, 0), (0, 1, 0)))


def papers(web, wish):
    """All papers of a wish for a web that have few numbers, found by trying all tuples of them."""
    word = wish[0]
    ties = range(len(web[1]))
    if word == "joined":
        for numbers in itertools.product(ties, repeat=web[0] - 1):
            if plainly.is_joined((web[0], tuple(web[1][number] for number in numbers))):
                yield numbers
    elif word in ("sided", "hues"):
        yield from plainly.colorings(web, 2 if word == "sided" else wish[1])
    elif word == "paired":
        yield from (numbers for numbers in plainly.lots_of_ties(web) if set(plainly.met_by(web, numbers)) == {1})
    elif word == "round":
        for numbers in itertools.permutations(ties, web[0]):
            if web[0] >= 2 and plainly.is_ring_of_all(web, numbers) and goes_on(web, numbers):
                yield numbers
    else:
        _, begin, end, least = wish
        for heights in itertools.product(range(-1, least + 2), repeat=web[0]):
            right = max(begin, end) < web[0] and heights[begin] == 0 and heights[end] >= least
            if right and all(abs(heights[tail] - heights[head]) <= 1 for tail, head, _ in web[1]):
                yield heights


def goes_on(web, numbers):
    """Whether the ties follow one another, the first one the last one, too."""
    ties = [set(web[1][number][:2]) for number in numbers]
    return all(one & other for one, other in zip(ties, ties[1:] + ties[:1]))


def candidates(web, wish):
    """Tuples of which some may be papers, and many are none."""
    word = wish[0]
    ties, places = range(-1, len(web[1]) + 1), web[0]
    if word == "joined":
        return itertools.chain(*(itertools.product(ties, repeat=many) for many in range(places + 1)))
    if word in ("sided", "hues"):
        k = 2 if word == "sided" else wish[1]
        return itertools.chain(*(itertools.product(range(-1, k + 1), repeat=many) for many in (places, places + 1)))
    if word in ("paired", "round"):
        return itertools.chain(*(itertools.product(ties, repeat=many) for many in range(5)))
    return itertools.product(range(-1, wish[3] + 2), repeat=places)


class Papers(unittest.TestCase):
    """judge_plain and plain_holds [4.2]."""

    def check_right(self, web, wish, thing):
        self.assertIs(plain_holds(web, wish, thing), True, (web, wish, thing))
        self.assertIs(plain_holds(thing=thing, wish=wish, web=web), True)

    def check_wrong(self, web, wish, *things):
        for thing in things:
            self.assertIs(plain_holds(web, wish, thing), False, (web, wish, thing))

    def test_examples(self):
        self.assertEqual(judge_plain(TIE, ('paired',)), ('yes', (0,)))
        self.assertIs(plain_holds(TRIANGLE, ('round',), ('yes', (0, 2, 1))), True)

    def test_what_is_judged_holds(self):
        dice = random.Random(11)
        for _ in range(1500):
            web = thrown_web(dice, dice.randint(1, 6), dice.randint(0, 9), 3)
            wish = thrown_plain(dice, web[0] + 1)
            if wish[0] in WORDS:
                found = judge_plain(web, wish)
                self.check_right(web, wish, found)
                self.assertEqual(found, judge_plain(wish=wish, web=web))
                holds = plainly.holds(web, wish)
                self.assertEqual(found[0], "yes" if holds else "no")
                self.assertIs(plain_holds(web, wish, ("no",)), not holds)
                if holds:
                    self.assertIn(found[1], list(papers(web, wish)) if web[0] < 5 and wish[0] != "far" else [found[1]])

    def test_all_papers_and_no_others(self):
        webs = [LONE, BARE, TIE, TWO_TIES, ROW, TRIANGLE, RING, TWICE, (3, ((0, 1, 0),)), (3, ((0, 1, 0), (0, 1, 1), (1, 2, 0))),
                (4, ((0, 1, 0), (2, 3, 0))), (1, ()), (3, ())]
        wishes = PAPERED[:5] + (("paired",), ("round",), ("far", 0, 1, 1), ("far", 1, 0, 2), ("far", 2, 0, 3))
        for web in webs:
            for wish in wishes:
                right = set(papers(web, wish))
                self.assertEqual(bool(right), does_hold(web, wish))
                self.assertIs(plain_holds(web, wish, ("no",)), not right)
                for thing in candidates(web, wish):
                    self.assertIs(plain_holds(web, wish, ("yes", thing)), thing in right, (web, wish, thing))

    def test_joined(self):
        joined = ("joined",)
        self.check_right(LONE, joined, ("yes", ()))
        self.check_right(RING, joined, ("yes", (3, 0, 1)))
        self.check_wrong(RING, joined, ("no",), ("yes", (0, 1, 2, 3)), ("yes", (0, 1)), ("yes", (0, 1, 1)), ("yes", [0, 1, 2]),
                         ("yes", (0, 1, 4)), ("yes", (0, 1, -1)), ("yes", (0, 1, True)), ("yes", (False, 1, 2)), ("yes", ()))
        self.check_wrong(LOOSE, joined, ("yes", (0, 1, 0)), ("yes", (0, 1)), ("yes", ()))

    def test_sided(self):
        sided = ("sided",)
        self.check_right(RING, sided, ("yes", (0, 0, 1, 1)))
        self.check_right(RING, sided, ("yes", (1, 1, 0, 0)))
        self.check_right(LONE, sided, ("yes", (1,)))
        self.check_wrong(RING, sided, ("no",), ("yes", (0, 1, 0, 1)), ("yes", (0, 0, 2, 2)), ("yes", (0, 0, 1)),
                         ("yes", (False, False, True, True)), ("yes", (0, 0, 1, True)), ("yes", [0, 0, 1, 1]),
                         ("yes", (0, 0, -1, -1)), ("yes", (0, 0, 1, 1, 0)), ("yes", "0011"))

    def test_hues(self):
        self.check_right(TRIANGLE, ("hues", 3), ("yes", (2, 0, 1)))
        self.check_right(TRIANGLE, ("hues", 5), ("yes", (4, 0, 1)))
        self.check_right(BARE, ("hues", 1), ("yes", (0, 0)))
        self.check_right(TRIANGLE, ("hues", 2), ("no",))
        self.check_wrong(TRIANGLE, ("hues", 3), ("no",), ("yes", (3, 0, 1)), ("yes", (0, 0, 1)), ("yes", (True, 0, 2)),
                         ("yes", (0, 1)), ("yes", (-1, 0, 1)), ("yes", (0, 1, 2, 0)), ("yes", [0, 1, 2]))
        self.check_wrong(BARE, ("hues", 1), ("yes", (0, 1)), ("yes", (False, False)))

    def test_paired(self):
        paired = ("paired",)
        self.check_right(RING, paired, ("yes", (0, 3)))
        self.check_right(RING, paired, ("yes", (1, 2)))
        self.check_right(TWICE, paired, ("yes", (2,)))
        self.check_wrong(RING, paired, ("no",), ("yes", (3, 0)), ("yes", (0,)), ("yes", (0, 1)), ("yes", (0, 3, 3)), ("yes", ()),
                         ("yes", (0, 0, 3)), ("yes", [0, 3]), ("yes", (False, 3)), ("yes", (0, 4)), ("yes", (-4, 3)))
        self.check_wrong(TWICE, paired, ("yes", (0, 1)), ("yes", (True,)))
        self.check_wrong(ROW, paired, ("yes", (0,)), ("yes", ()), ("yes", (0, 1)))

    def test_round(self):
        turns = ("round",)
        for numbers in ((0, 1, 3, 2), (1, 3, 2, 0), (2, 3, 1, 0), (0, 2, 3, 1)):
            self.check_right(RING, turns, ("yes", numbers))
        self.check_right(TWO_TIES, turns, ("yes", (1, 0)))
        self.check_right(TWICE, turns, ("yes", (0, 2)))
        self.check_wrong(RING, turns, ("no",), ("yes", (0, 1, 2, 3)), ("yes", (0, 1, 3)), ("yes", (0, 1, 3, 2, 0)), ("yes", (0, 1, 0, 1)),
                         ("yes", [0, 1, 3, 2]), ("yes", (False, 1, 3, 2)), ("yes", (0, True, 3, 2)), ("yes", (0, 1, 3, -2)))
        self.check_wrong(TWO_TIES, turns, ("yes", (0, 0)), ("yes", (0,)), ("yes", (0, 1, 0)), ("yes", ()))
        self.check_wrong(LONE, turns, ("yes", ()), ("yes", (0,)), ("yes", (0, 0)))
        self.check_wrong(TIE, turns, ("yes", (0,)), ("yes", (0, 0)))
        # Ties that lead round without meeting all places, or that meet one twice.
        self.check_wrong((4, ((0, 1, 0), (0, 1, 0), (1, 2, 0), (1, 2, 0))), turns, ("yes", (0, 2, 3, 1)), ("yes", (2, 3, 1, 0)))
        bow = (6, ((0, 1, 0), (0, 2, 0), (1, 2, 0), (2, 3, 0), (2, 4, 0), (3, 4, 0)))
        self.check_wrong(bow, turns, ("yes", (0, 2, 3, 5, 4, 1)), ("yes", (3, 5, 4, 1, 0, 2)))
        # Two rings of two ties each are no ring.
        self.check_wrong((4, ((0, 1, 0), (0, 1, 0), (2, 3, 0), (2, 3, 0))), turns, ("yes", (0, 1, 2, 3)), ("yes", (0, 2, 1, 3)))
        self.check_wrong((3, ((0, 1, 0), (0, 1, 0), (1, 2, 0), (1, 2, 0))), turns, ("yes", (0, 2, 3)), ("yes", (0, 1, 2)))

    def test_far(self):
        far = ("far", 0, 1, 2)
        self.check_right(ROW, far, ("yes", (0, 2, 1)))
        self.check_right(BARE, far, ("yes", (0, 2)))
        self.check_right(BARE, far, ("yes", (0, 10 ** 99)))
        self.check_right(RING, ("far", 1, 0, 1), ("yes", (2, 0, 1, 1)))
        self.check_right((3, ()), far, ("yes", (0, 7, -(10 ** 99))))
        self.check_right(TIE, far, ("no",))
        self.check_right(TIE, ("far", 0, 2, 1), ("no",))
        self.check_wrong(ROW, far, ("no",), ("yes", (0, 1, 1)), ("yes", (1, 3, 2)), ("yes", (0, 2, 0)), ("yes", (0, 3, 1)),
                         ("yes", (0, 2)), ("yes", (0, 2, 1, 0)), ("yes", (False, 2, 1)), ("yes", (0, 2, True)), ("yes", [0, 2, 1]),
                         ("yes", (0, 2, "1")), ("yes", (0, -2, -1)), ("yes", (0, 2, None)))
        self.check_wrong(BARE, ("far", 0, 2, 1), ("yes", (0, 1)), ("yes", (0, 1, 1)))
        self.check_wrong(BARE, ("far", 2, 0, 1), ("yes", (0, 1)), ("yes", (1, 1)))

    def test_distances_at_the_bounds(self):
        for d in range(1, 13):
            row = (d + 1, tuple((place, place + 1, 0) for place in range(d)))
            for least in range(1, 13):
                found = judge_plain(row, ("far", 0, d, least))
                self.assertEqual(found[0], "yes" if d >= least else "no")
                self.check_right(row, ("far", 0, d, least), found)

    def test_webs_at_the_limits(self):
        dice = random.Random(12)
        for _ in range(100):
            web = thrown_web(dice, 14, 24, 3)
            for wish in PAPERED:
                found = judge_plain(web, wish)
                self.assertEqual(found[0], "yes" if does_hold(web, wish) else "no")
                self.check_right(web, wish, found)

    def test_papers_of_webs_that_are_grown(self):
        web = grown(CHOSEN["fast"], 3)
        depths = plainly_far(web, 0)
        self.check_right(web, ("sided",), ("yes", tuple(depth % 2 for depth in depths)))
        self.check_right(web, ("hues", 2), ("yes", tuple(depth % 2 for depth in depths)))
        self.check_right(web, ("far", 0, 1, 8), ("yes", tuple(depths)))
        self.check_wrong(web, ("far", 0, 1, 9), ("yes", tuple(depths)))
        self.check_right(web, ("joined",), judge_plain(web, ("joined",)))

    def test_any_value(self):
        for web in (LONE, TIE, TRIANGLE, RING, WIDE, BARE):
            for wish in PAPERED:
                for thing in STRANGE + NO_WISHES[-60:] + (("yes",), ("no", ()), ("no", None), ["no"], ("no", 0), "no", ("yes", None),
                                                         ("yes", (), ()), ("Yes", ()), (True, ()), ("yes", ((),)), ("yes", {}),
                                                         ("yes", (None,) * web[0]), ("yes", ((0,),) * web[0]), (("no",),)):
                    self.assertIs(plain_holds(web, wish, thing), False, (web, wish, thing))
        # The empty tuple is a paper where there is nothing to tell.
        self.assertIs(plain_holds(LONE, ("joined",), ("yes", ())), True)

    def test_changed_papers(self):
        dice = random.Random(13)
        for _ in range(300):
            web = thrown_web(dice, dice.randint(2, 4), dice.randint(1, 5), 3)
            for wish in (("joined",), ("sided",), ("hues", 3), ("paired",), ("round",), ("far", 0, 1, 2)):
                found = judge_plain(web, wish)
                if found[0] == "yes":
                    right = set(papers(web, wish))
                    for other in changed(found[1]):
                        plain = all(isinstance(item, int) and not isinstance(item, bool) for item in other)
                        if wish[0] != "far" or (plain and all(-1 <= item <= 3 for item in other)):
                            self.assertIs(plain_holds(web, wish, ("yes", other)), plain and other in right)
                        elif not plain:
                            self.assertIs(plain_holds(web, wish, ("yes", other)), False)

    def test_wrong_arguments(self):
        for thing in NO_WEBS:
            self.assertEqual(raised(judge_plain, thing, ("whole",)), ("BadWeb", {"thing": thing}))
            self.assertEqual(raised(plain_holds, thing, None, ("no",)), ("BadWeb", {"thing": thing}))
        for thing in NO_WISHES + OTHERS:
            self.assertEqual(raised(judge_plain, TIE, thing), ("BadWish", {"thing": thing}))
            self.assertEqual(raised(plain_holds, TIE, thing, ("no",)), ("BadWish", {"thing": thing}))
            self.assertEqual(raised(plain_holds, thing=thing, wish=thing, web=TIE), ("BadWish", {"thing": thing}))


def plainly_far(web, begin):
    """For each place how many ties the shortest way from begin has."""
    depths, waiting = {begin: 0}, [begin]
    for place in waiting:
        for _, other in plainly.near(web, place):
            if other not in depths:
                depths[other] = depths[place] + 1
                waiting.append(other)
    return [depths[place] for place in range(web[0])]


def changed(paper):
    """Tuples that come of one with an item left out, doubled, exchanged, or of another sort."""
    for at in range(len(paper)):
        yield paper[:at] + paper[at + 1:]
        yield paper[:at] + paper[at:at + 1] + paper[at:]
        for item in (paper[at] + 1, paper[at] - 1, bool(paper[at]), str(paper[at]), None):
            yield paper[:at] + (item,) + paper[at + 1:]
        for other in range(at):
            yield paper[:other] + (paper[at],) + paper[other + 1:at] + (paper[other],) + paper[at + 1:]


if __name__ == "__main__":
    unittest.main()
