"""Products of thick growths read back: the greatest pieces are taken off, and what they leave is the first growth."""

from itertools import combinations

from manydeep.eyes import is_close, is_even, parts_without, seen_renaming


def row_read(growth):
    """A row whose product is the same to the eye as a growth all of whose ties have the kind 0, None if there is none.

    Only a product of one growth is thick: all other ones are parted by the ends of the ties that were replaced.
    """
    if is_close(growth):
        return (growth,) if is_even(growth) else None
    taken = _greatest_pieces(growth)
    first = _what_is_left(growth, taken)
    if first is None or not is_close(first) or not is_even(first):
        return None
    pieces = [_piece(growth, ends, inner) for inner, ends in taken]
    if None in [seen_renaming(pieces[0], piece) for piece in pieces]:
        return None
    rest = row_read(pieces[0])
    return None if rest is None else (first,) + rest


def _greatest_pieces(growth):
    """The pairs (inner places, ends) of the greatest pieces that hang on two places each."""
    taken = []
    covered = {}
    for _, inner, ends in sorted(_hanging_pieces(growth)):
        # The greater ones come first. Those of a product lie in one another or have no place in common.
        if not [place for place in inner if place in covered]:
            taken.append((inner, ends))
            for place in inner:
                covered[place] = True
    return taken


def _hanging_pieces(growth):
    """Triples of what hangs on two places, but for what has 0 or 1: less its size, its places, these two places."""
    places, ties = growth
    pairs = [(tail, head) for tail, head, kind in ties]
    found = []
    for ends in combinations(range(places), 2):
        for inner in parts_without(places, pairs, ends[0], ends[1]):
            if 0 not in inner and 1 not in inner and len(inner) < places - 2:
                found.append((-len(inner), inner, ends))
    return found


def _what_is_left(growth, taken):
    """The growth that is left if each piece gives way to a tie, None if some tie is in no piece."""
    places, ties = growth
    inside = {}
    for inner, _ in taken:
        for place in inner:
            inside[place] = True
    if [tie for tie in ties if tie[0] not in inside and tie[1] not in inside]:
        return None
    left = [place for place in range(places) if place not in inside]
    if [ends for inner, ends in taken if ends[0] in inside or ends[1] in inside]:
        return None
    return len(left), tuple(sorted([(left.index(ends[0]), left.index(ends[1]), 0) for inner, ends in taken]))


def _piece(growth, ends, inner):
    """The growth that hangs on two places."""
    names = {place: name for name, place in enumerate(list(ends) + inner)}
    ties = [tie for tie in growth[1] if tie[0] in inner or tie[1] in inner]
    return len(names), tuple(sorted([(names[tail], names[head], 0) for tail, head, kind in ties]))
