"""Thick growths for the tests, looked for among all growths of few places, and plain looks at them."""
import functools
import itertools

from tests import plainly
from tests.plainly import put_in

LOZENGE = (4, ((0, 2, 0), (0, 3, 0), (1, 2, 0), (1, 3, 0), (2, 3, 0)))
FIVE = (5, ((0, 2, 0), (0, 3, 0), (0, 4, 0), (1, 2, 0), (1, 3, 0), (1, 4, 0), (2, 3, 0), (2, 4, 0), (3, 4, 0)))
# A wheel: 2 is its middle, and 0 and 1 are two of its rim that are next to one another.
WHEEL = (5, ((0, 2, 0), (0, 3, 0), (1, 2, 0), (1, 4, 0), (2, 3, 0), (2, 4, 0), (3, 4, 0)))
PRISM = (6, ((0, 2, 0), (0, 3, 0), (1, 4, 0), (1, 5, 0), (2, 3, 0), (2, 4, 0), (3, 5, 0), (4, 5, 0)))


def pairs(growth):
    return sorted((min(a, b), max(a, b)) for a, b, _ in growth[1])


def renamings(growth):
    """All renamings that leave 0 and 1 where they are."""
    for rest in itertools.permutations(range(2, growth[0])):
        yield (0, 1) + rest


def leads_to(one, other, renaming):
    return one[0] == other[0] and sorted(tuple(sorted((renaming[a], renaming[b]))) for a, b, _ in one[1]) == pairs(other)


def is_same(one, other):
    """Whether two growths are the same to the eye; all orders are tried."""
    if one[0] != other[0] or len(one[1]) != len(other[1]):
        return False
    return any(leads_to(one, other, renaming) for renaming in renamings(one))


def turned(growth):
    names = [1, 0] + list(range(2, growth[0]))
    return (growth[0], tuple(sorted((names[a], names[b], c) for a, b, c in growth[1])))


def is_plain_even(growth):
    return is_same(growth, turned(growth))


def is_plain_thick(growth):
    """What 13.2 says, word by word."""
    places, ties = growth
    if any(c != 0 for _, _, c in ties) or places < 4 or len(set(pairs(growth))) < len(ties) or (0, 1) in pairs(growth):
        return False
    web = (places, ties + ((0, 1, 0),))
    if not plainly.is_joined(web) or not all(plainly.is_joined(web, place) for place in range(places)):
        return False
    return all(is_joined_without(web, lot) for lot in itertools.combinations(range(places), 2))


def is_joined_without(web, lot):
    left = [place for place in range(web[0]) if place not in lot]
    names = {place: name for name, place in enumerate(left)}
    return plainly.is_joined((len(left), tuple((names[a], names[b], c) for a, b, c in web[1] if a in names and b in names)))


@functools.cache
def thick_ones():
    """Thick and even-ended growths of four to six places, no two of them the same to the eye, and of six only some."""
    found = [LOZENGE, FIVE, WHEEL]
    choices = [pair for pair in itertools.combinations(range(6), 2) if pair != (0, 1)]
    for many in (8, 9, 10, 14):
        kept = 0
        for chosen in itertools.combinations(choices, many):
            growth = (6, tuple((a, b, 0) for a, b in chosen))
            degrees = [sum(place in pair for pair in chosen) for place in range(6)]
            if min(degrees[2:]) < 3 or min(degrees[:2]) < 2 or not is_plain_thick(growth) or not is_plain_even(growth):
                continue
            if not any(is_same(growth, other) for other in found):
                found.append(growth)
                kept += 1
            if kept == 3:
                break
    return tuple(found)


def disguised(growth, dice):
    """The growth with its inner places renamed and some of its ties turned about."""
    names = [0, 1] + dice.sample(range(2, growth[0]), growth[0] - 2)
    ties = [(names[a], names[b], c) if dice.random() < 0.5 else (names[b], names[a], c) for a, b, c in growth[1]]
    return (growth[0], tuple(sorted(ties)))


def made(row):
    """The product of a row."""
    web = row[0]
    for growth in row[1:]:
        web = put_in(web, (growth,))
    return web
