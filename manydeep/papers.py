"""Papers: what shows by itself that a plain wish holds for a web."""

from manydeep.checks import is_integer, is_integer_below, is_tuple_of
from manydeep.flows import least_sums
from manydeep.loops import ring_found
from manydeep.lots import all_places, lots_chosen
from manydeep.parts import are_joined, parts_of, sides_of
from manydeep.tints import hues_chosen
from manydeep.webs import MOST_KINDS

PAPER_WORDS = ("joined", "sided", "hues", "paired", "round", "far")


def paper_for(web, wish):
    """A paper of a wish for a web, None if the wish does not hold."""
    word = wish[0]
    if word == "joined":
        return _joining_ties(web)
    if word == "sided":
        sides = sides_of(web[0], [(tail, head, 1) for tail, head, kind in web[1]])
        return None if sides is None else tuple([side for part, side in sides])
    if word == "hues":
        return hues_chosen(web, ((False, True),) * MOST_KINDS, wish[1], ())
    if word == "paired":
        chosen = lots_chosen(web, (((), (0, 1)),) * MOST_KINDS, all_places(web))
        return None if chosen is None else tuple([number for number, lot in enumerate(chosen) if lot])
    if word == "round":
        return ring_found(web, [True] * len(web[1]), [False] * len(web[1]))
    return _heights(web, wish)


def _joining_ties(web):
    places, ties = web
    chosen = []
    parts = parts_of(places, [])
    for number, (tail, head, _) in enumerate(ties):
        if parts[tail] != parts[head]:
            chosen.append(number)
            gone = parts[head]
            parts = [parts[tail] if part == gone else part for part in parts]
    return tuple(chosen) if len(chosen) == places - 1 else None


def _heights(web, wish):
    begin, end, least = wish[1:]
    if max(begin, end) >= web[0]:
        return None
    sums = least_sums(web, (1,) * MOST_KINDS, begin)
    heights = tuple([least if far is None else min(far, least) for far in sums])
    return heights if heights[end] == least else None


def is_paper(web, wish, thing):
    """Whether any value is a paper of a wish for a web."""
    word = wish[0]
    if word == "joined":
        return _is_joining(web, thing)
    if word == "sided":
        return _are_unlike_at_ties(web, 2, thing)
    if word == "hues":
        return _are_unlike_at_ties(web, wish[1], thing)
    if word == "paired":
        return _is_pairing(web, thing)
    if word == "round":
        return _is_round(web, thing)
    return _are_heights(web, wish, thing)


def _are_numbers(web, thing):
    """Whether any value is a tuple of numbers of ties."""
    return isinstance(thing, tuple) and all([is_integer_below(number, len(web[1])) for number in thing])


def _is_joining(web, thing):
    if not is_tuple_of(thing, web[0] - 1) or not _are_numbers(web, thing):
        return False
    return are_joined(web[0], [web[1][number][:2] for number in thing])


def _are_unlike_at_ties(web, end, thing):
    """Whether any value has an integer below end for each place, unlike ones at both ends of each tie."""
    if not is_tuple_of(thing, web[0]) or not all([is_integer_below(item, end) for item in thing]):
        return False
    return not [tie for tie in web[1] if thing[tie[0]] == thing[tie[1]]]


def _is_pairing(web, thing):
    if not _are_numbers(web, thing):
        return False
    ends = []
    for number in thing:
        ends.extend(web[1][number][:2])
    # Each place is there just once: so no tie is told twice, too.
    return sorted(ends) == list(range(web[0])) and list(thing) == sorted(thing)


def _is_round(web, thing):
    # A web of one place has no ties: so it has no ring of one tie, either.
    if not _are_numbers(web, thing) or len(thing) != web[0] or len(set(thing)) < len(thing):
        return False
    tail, head, _ = web[1][thing[0]]
    return _goes_round(web, thing, tail, head) or _goes_round(web, thing, head, tail)


def _goes_round(web, numbers, begin, place):
    """Whether ties lead on from a place, behind the first tie from begin to it, and meet all places, begin last."""
    met = [place]
    for number in numbers[1:]:
        tail, head, _ = web[1][number]
        if place not in (tail, head):
            return False
        place = head if place == tail else tail
        met.append(place)
    return place == begin and sorted(met) == list(range(web[0]))


def _are_heights(web, wish, thing):
    begin, end, least = wish[1:]
    if not is_tuple_of(thing, web[0]) or not all([is_integer(height) for height in thing]):
        return False
    if max(begin, end) >= web[0] or thing[begin] != 0 or thing[end] < least:
        return False
    return not [tie for tie in web[1] if abs(thing[tie[0]] - thing[tie[1]]) > 1]
