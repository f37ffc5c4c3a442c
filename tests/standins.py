"""For each mark that a plain wish can have, pieces that have it: so that marks can be checked by webs."""
import functools
import itertools

from tests.plainly import mark

LOTS = ((), (0,), (0, 1), (1,))
BOOLS = (False, True)


def marks_told(wish):
    """All marks that a plain wish can have, as 5.1 tells them."""
    word = wish[0]
    if word == "joined":
        return ["one", "two", "loose"]
    if word == "sided":
        return ["broken", "free", "odd", "even"]
    if word == "hues":
        return [pair for pair in itertools.product(BOOLS, repeat=2) if wish[1] > 1 or not pair[1]]
    if word == "paired":
        lots = [tuple(chosen) for many in range(5) for chosen in itertools.combinations(LOTS, many)]
        return [chosen for chosen in lots if len({len(lot) % 2 for lot in chosen}) < 2]
    if word == "round":
        return [triple for triple in itertools.product(BOOLS, repeat=3) if triple != (True, False, True)]
    if word == "ringed":
        return [(True, "always"), (True, "tied"), (True, "never"), (False, "always"), (False, "never")]
    if word == "whole":
        return ["no", "bare", "self", "tied", "bad"]
    if word == "even":
        return [(inside, tail, head) for inside in BOOLS for tail in (0, 1) for head in (0, 1)
                if (inside, tail, head) not in ((True, 0, 1), (True, 1, 0))]
    return list(range(wish[2]) if word == "number" else range(1, wish[3] + 1) if word == "far" else range(wish[3] + 1))


@functools.cache
def small_pieces():
    """All growths of two to four places and at most five ties of the kind 0, and some greater ones."""
    found = []
    for places in (2, 3, 4):
        pairs = list(itertools.combinations(range(places), 2))
        for many in range(6):
            for chosen in itertools.combinations_with_replacement(pairs, many):
                found.append((places, tuple((one, other, 0) for one, other in chosen)))
    return found


def fans(k):
    """Two growths for k hues: one that forces one hue on its ends, and one that has no hues at all."""
    inner = [(one, other, 0) for one, other in itertools.combinations(range(2, k + 1), 2)]
    spokes = [(end, place, 0) for end in (0, 1) for place in range(2, k + 1)]
    return (k + 1, tuple(sorted(inner + spokes))), (k + 1, tuple(sorted(inner + spokes + [(0, 1, 0)])))


def row_of_ties(many):
    """A growth in which so many ties one behind the other join the ends."""
    places = [0] + list(range(2, many + 1)) + [1]
    return (many + 1, tuple(sorted((one, other, 0) for one, other in zip(places, places[1:]))))


@functools.cache
def stand_ins(wish):
    """A dict: for each mark of a plain wish a list of at most four growths that have it."""
    if wish[0] == "number":
        # One that has other ties, too.
        kind = wish[1]
        return {many: [(2, ((0, 1, kind),) * many), (3, tuple(sorted(((0, 1, kind),) * many + ((1, 2, (kind + 1) % 3),))))]
                for many in marks_told(wish)}
    extra = [row_of_ties(many) for many in range(3, 13)]
    if wish[0] == "hues":
        extra = list(fans(wish[1])) if wish[1] > 1 else []
    if wish[0] == "apart":
        extra = [(2, ((0, 1, 0),) * 6)]
    found = {told: [] for told in marks_told(wish)}
    for piece in extra + small_pieces():
        # Hues of many places are many to try.
        if wish[0] == "hues" and wish[1] > 3 and piece[0] > 3 and piece not in extra:
            continue
        if min(len(pieces) for pieces in found.values()) == 4:
            break
        has = mark(piece, wish)
        assert has in found, (wish, piece, has)
        if len(found[has]) < 4:
            found[has].append(piece)
    assert all(found.values()), (wish, found)
    return found
