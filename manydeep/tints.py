"""The choice of hues for places, under what the ties allow."""

from manydeep.parts import parts_of


def hues_chosen(web, allowed, k, fixed):
    """For each place one of k hues, the first places having the fixed ones; None if there is no such choice.

    For each kind a pair tells whether the ends of a tie may have one hue, and whether they may have unlike ones. The
    fixed hues are such that each lesser hue than one of them is fixed ahead of it.
    """
    near = [[] for _ in range(web[0])]
    for tail, head, kind in web[1]:
        near[tail].append((head, allowed[kind]))
        near[head].append((tail, allowed[kind]))
    hues = {}
    for place, hue in enumerate(fixed):
        if hue >= k or not _may_have(near, hues, place, hue):
            return None
        hues[place] = hue
    for free in _free_parts(web, len(fixed)):
        if not _are_filled(near, hues, k, free):
            return None
    return tuple([hues[place] for place in range(web[0])])


def _free_parts(web, first):
    """The lists of places from the first free one on that hang together, so that each can be filled by itself."""
    pairs = [(tail, head) for tail, head, kind in web[1] if min(tail, head) >= first]
    found = {}
    for place, part in enumerate(parts_of(web[0], pairs)):
        if place >= first:
            found.setdefault(part, []).append(place)
    return list(found.values())


def _are_filled(near, hues, k, free):
    """Give hues to all free places; whether this could be done."""
    if not free:
        return True
    # Hues that no place has yet are all alike: one of them is enough.
    usable = list(range(min(k, max(hues.values(), default=-1) + 2)))
    # The place with the fewest choices comes first.
    _, _, place = min([(len(_choices(near, hues, one, usable)), -len(near[one]), one) for one in free])
    rest = [other for other in free if other != place]
    choices = _choices(near, hues, place, usable)
    for hue in choices:
        hues[place] = hue
        if _are_filled(near, hues, k, rest):
            return True
        del hues[place]
    return False


def _choices(near, hues, place, usable):
    return [hue for hue in usable if _may_have(near, hues, place, hue)]


def _may_have(near, hues, place, hue):
    for other, allowed in near[place]:
        if other in hues and not allowed[0 if hues[other] == hue else 1]:
            return False
    return True
