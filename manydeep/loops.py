"""The search for a ring that meets all places of a web."""


def ring_found(web, usable, needed):
    """The numbers of the ties, in their order, of a ring that meets all places; None if there is none.

    For each tie usable and needed tell whether the ring may, and whether it must go over it.
    """
    places, ties = web
    if [number for number in range(len(ties)) if needed[number] and not usable[number]]:
        return None
    if places <= 2:
        return _short_ring(places, usable, needed)
    steps = [{} for _ in range(places)]
    bound = [{} for _ in range(places)]
    # Ties that are needed come last: so they stay where another one has the same ends.
    for number in sorted(range(len(ties)), key=lambda at: needed[at]):
        if usable[number]:
            tail, head, _ = ties[number]
            if needed[number] and head in bound[tail]:
                return None
            steps[tail][head] = steps[head][tail] = number
            if needed[number]:
                bound[tail][head] = bound[head][tail] = True
    return _long_ring(steps, bound)


def _short_ring(places, usable, needed):
    """A ring of a web of at most two places: it has just two ties."""
    musts = [number for number in range(len(usable)) if needed[number]]
    mays = [number for number in range(len(usable)) if usable[number] and not needed[number]]
    if places < 2 or len(musts) > 2 or len(musts + mays) < 2:
        return None
    return tuple((musts + mays)[:2])


def _long_ring(steps, bound):
    """A ring of three places or more: each place's steps lead to its neighbors, and over all bound ones."""
    for place in range(len(steps)):
        # A ring leaves a place of two neighbors by both.
        if len(steps[place]) == 2:
            for other in steps[place]:
                bound[place][other] = bound[other][place] = True
    for place in range(len(steps)):
        if len(steps[place]) < 2 or len(bound[place]) > 2:
            return None
    met = _met_in_turn(steps, bound, [0])
    if met is None:
        return None
    return tuple([steps[one][other] for one, other in zip(met, met[1:] + [0])])


def _met_in_turn(steps, bound, met):
    """All places as a ring that begins with those met so far meets them; None if there is none."""
    place = met[-1]
    before = met[-2:-1]
    musts = [other for other in bound[place] if other not in before]
    if len(met) == len(steps):
        return met if _is_closed(steps, bound, met, musts) else None
    if place == 0:
        # A ring can be gone round in both directions: so one of the bound ties is taken first.
        musts = musts[:1]
    if len(musts) > 1:
        return None
    for other in musts or list(steps[place]):
        if other not in met:
            found = _met_in_turn(steps, bound, met + [other])
            if found is not None:
                return found
    return None


def _is_closed(steps, bound, met, musts):
    """Whether the last place leads back to the first one, and no bound tie is left at either."""
    back_at_start = [other for other in bound[0] if other not in (met[1], met[-1])]
    return 0 in steps[met[-1]] and not back_at_start and not [other for other in musts if other != 0]
