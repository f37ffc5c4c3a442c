"""Webs, gardens and wishes for the tests: chosen ones, and ones thrown together, the same in each run."""
import random

from tests.anyvalues import BARE, FORKED, LONE, RING, ROW, TIE, TWICE
from tests.plainly import put_in

LONG = ((3, ((0, 2, 0), (2, 1, 1))), (2, ((0, 1, 0),)))
TRIANGLE = (3, ((0, 1, 0), (0, 2, 0), (1, 2, 0)))
DIAMOND = (4, ((0, 2, 0), (0, 3, 0), (2, 1, 0), (3, 1, 0)))
LOOSE = (4, ((0, 1, 0), (2, 3, 0)))
FULL = (7, tuple((a, b, 0) for a in range(7) for b in range(a + 1, 7)))
TIE_OF_ONE = (2, ((0, 1, 1),))
TAIL = (3, ((0, 1, 0), (0, 2, 0)))

# Gardens by the way in which they go on.
CHOSEN = {
    "still": (TIE, (TIE,)),
    "turning": (FORKED, ((2, ((1, 0, 1),)), (2, ((0, 1, 0),)))),
    "dying": (FORKED, (ROW, BARE)),
    "dead at once": (TRIANGLE, (BARE,)),
    "lone": (LONE, (TIE,)),
    "bare": ((5, ()), (DIAMOND,)),
    "slow": (TIE, ((2, ((0, 1, 0), (0, 1, 1))), TIE_OF_ONE)),
    "slow with places": (TIE, ((3, ((0, 1, 0), (0, 2, 1))), TIE_OF_ONE)),
    "long": (TIE, LONG),
    "rows": (TRIANGLE, (ROW,)),
    "fast": (TIE, (DIAMOND,)),
    "tailed": (TIE, (TAIL,)),
    "three": (TWICE, (FORKED, (3, ((0, 2, 2), (2, 1, 1))), (2, ((1, 0, 0),)))),
    "three in turn": ((3, ((0, 1, 0), (1, 2, 1), (2, 0, 2))), ((2, ((0, 1, 1),)), (2, ((1, 0, 2),)), ROW)),
    "three without ties": (TWICE, (BARE, (3, ()), BARE)),
    "loose": (LOOSE, (LOOSE,)),
    "doubled ties": ((2, ((0, 1, 0), (0, 1, 0))), ((3, ((0, 2, 0), (0, 2, 0), (2, 1, 0))),)),
}
GARDENS = tuple(CHOSEN.values())

PLAIN = (
    ("joined",), ("sided",), ("hues", 1), ("hues", 2), ("hues", 3), ("hues", 5), ("paired",), ("round",), ("ringed",),
    ("whole",), ("even",), ("number", 0, 2, 1), ("number", 1, 3, 0), ("number", 2, 12, 11), ("far", 0, 1, 1),
    ("far", 1, 0, 3), ("far", 0, 2, 12), ("apart", 0, 1, 1), ("apart", 1, 0, 2), ("apart", 2, 0, 6),
)
JOINT = (
    ("not", ("joined",)), ("and", ("sided",), ("paired",)), ("or", ("round",), ("number", 0, 5, 4)),
    ("not", ("and", ("not", ("even",)), ("or", ("hues", 2), ("whole",)))),
    ("or", ("and", ("far", 0, 1, 4), ("joined",)), ("not", ("not", ("ringed",)))),
)
WISHES = PLAIN + JOINT


def thrown_web(dice, places, ties, kinds):
    """A web of so many places and ties, thrown with dice; of one place it has no ties."""
    found = []
    for _ in range(ties if places > 1 else 0):
        tail, head = dice.sample(range(places), 2)
        found.append((tail, head, dice.randrange(kinds)))
    return (places, tuple(sorted(found)))


def thrown_garden(dice, places=4, ties=4):
    kinds = dice.randint(1, 3)
    start = thrown_web(dice, dice.randint(1, places), dice.randint(0, ties), kinds)
    book = tuple(thrown_web(dice, dice.randint(2, places), dice.randint(0, ties), kinds) for _ in range(kinds))
    return (start, book)


def thrown_gardens(many, seed, places=4, ties=4):
    dice = random.Random(seed)
    return [thrown_garden(dice, places, ties) for _ in range(many)]


def thrown_plain(dice, places):
    """A plain wish, thrown with dice, of places below so many."""
    word = dice.choice(("joined", "sided", "hues", "paired", "round", "ringed", "whole", "even", "number", "far", "apart"))
    if word == "hues":
        return (word, dice.randint(1, 5))
    if word == "number":
        modulus = dice.randint(2, 12)
        return (word, dice.randrange(3), modulus, dice.randrange(modulus))
    if word in ("far", "apart"):
        one, other = dice.sample(range(max(2, places)), 2)
        return (word, one, other, dice.choice((1, 2, 2, 3, 3, 4, 5, 12 if word == "far" else 6)))
    return (word,)


def thrown_wish(dice, places, depth):
    if depth == 0 or dice.random() < 0.3:
        return thrown_plain(dice, places)
    word = dice.choice(("not", "and", "or"))
    parts = tuple(thrown_wish(dice, places, depth - 1) for _ in range(1 if word == "not" else 2))
    return (word,) + parts


def webs_of(garden, places, ties, rounds):
    """The webs after 0, 1, .. rounds, as long as they have at most so many places and ties; put together plainly."""
    web, book = garden
    found = [web]
    while len(found) <= rounds:
        web = put_in(web, book)
        if web[0] > places or len(web[1]) > ties:
            break
        found.append(web)
    return found
