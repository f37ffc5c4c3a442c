"""Growths as the eye sees them: all ties have the kind 0, and it is not seen which way a tie runs."""

from itertools import combinations

from manydeep.checks import is_integer, is_tuple_of
from manydeep.likeness import matching
from manydeep.parts import parts_of


def seen_renaming(one, other):
    """A renaming that leads, to the eye, a growth to another one and leaves 0 and 1, None if there is none."""
    return matching(_seen_both_ways(one), _seen_both_ways(other), 2)


def _seen_both_ways(growth):
    places, ties = growth
    return places, tuple(sorted(ties + tuple([(head, tail, kind) for tail, head, kind in ties])))


def is_seen_renaming(one, other, thing):
    """Whether any value is a renaming that leads, to the eye, a growth to another one and leaves 0 and 1."""
    if one[0] != other[0] or not is_tuple_of(thing, one[0]) or not all([is_integer(item) for item in thing]):
        return False
    if thing[:2] != (0, 1) or sorted(thing) != list(range(one[0])):
        return False
    return sorted([_pair(thing[tail], thing[head]) for tail, head, kind in one[1]]) == sorted(_pairs(other))


def _pairs(growth):
    return [_pair(tail, head) for tail, head, kind in growth[1]]


def _pair(one, other):
    return (min(one, other), max(one, other))


def is_even(growth):
    """Whether a growth is even-ended: to the eye the same once its ends are exchanged."""
    return seen_renaming(growth, ends_exchanged(growth)) is not None


def ends_exchanged(growth):
    """The growth in which the places 0 and 1 are exchanged."""
    places, ties = growth
    return places, tuple(sorted([(_exchanged(tail), _exchanged(head), kind) for tail, head, kind in ties]))


def _exchanged(place):
    return 1 - place if place < 2 else place


def has_kind_0_alone(growth):
    """Whether all ties have the kind 0."""
    return not [tie for tie in growth[1] if tie[2] > 0]


def is_close(growth):
    """Whether a growth is thick."""
    places, ties = growth
    pairs = _pairs(growth)
    if not has_kind_0_alone(growth) or places < 4 or (0, 1) in pairs or len(set(pairs)) < len(pairs):
        return False
    # Each place needs three ties: so webs of very many places and few ties are not looked through.
    if 2 * (len(pairs) + 1) < 3 * places:
        return False
    pairs = pairs + [(0, 1)]
    for one, other in combinations(range(places), 2):
        if len(parts_without(places, pairs, one, other)) > 1:
            return False
    # A web of four places or more that is joined without any two of them is so without one and without none, too.
    return True


def parts_without(places, pairs, one, other):
    """The lists of the places that are joined once two places are taken out."""
    kept = [pair for pair in pairs if one not in pair and other not in pair]
    found = {}
    for place, part in enumerate(parts_of(places, kept)):
        if place not in (one, other):
            found.setdefault(part, []).append(place)
    return list(found.values())
