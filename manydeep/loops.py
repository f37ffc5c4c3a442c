"""The search for a ring that meets all places of a web."""


def ring_found(web, usable, needed):
    """The numbers of the ties, in their order, of a ring that meets all places; None if there is none.

    For each tie usable and needed tell whether the ring may, and whether it must go over it.
    """
    places, ties = web
    if [number for number in range(len(ties)) if needed[number] and not usable[number]]:
        return None
    if places <= 2:
        return _short_ring(usable, needed)
    steps = [{} for _ in range(places)]
    bound = [{} for _ in range(places)]
    # Ties that are needed come last: so they stay where another one has the same ends.
    for number in sorted(range(len(ties)), key=lambda at: needed[at]):
        if usable[number]:
            tail, head, _ = ties[number]
            if needed[number] and head in bound[tail]:
                return None
            steps[tail][head] = steps[head][tail] = number
            if needed[number]:
                bound[tail][head] = bound[head][tail] = True
    return _long_ring(steps, bound)


def _short_ring(usable, needed):
    """A ring of a web of two places, which has just two ties; a web of one place has none."""
    musts = [number for number in range(len(usable)) if needed[number]]
    mays = [number for number in range(len(usable)) if usable[number] and not needed[number]]
    if len(musts) > 2 or len(musts + mays) < 2:
        return None
    return tuple((musts + mays)[:2])


def _long_ring(steps, bound):
    """A ring of three places or more: each place's steps lead to its neighbors, and over all bound ones."""
    for place in range(len(steps)):
        # A ring leaves a place of two neighbors by both.
        if len(steps[place]) == 2:
            for other in steps[place]:
                bound[place][other] = bound[other][place] = True
    for place in range(len(steps)):
        # Nothing is wrong without this, but it saves most searches that find nothing.
        if len(steps[place]) < 2 or len(bound[place]) > 2:
            return None
    met = _met_in_turn(steps, bound, [0])
    if met is None:
        return None
    return tuple([steps[one][other] for one, other in zip(met, met[1:] + met[:1])])


def _met_in_turn(steps, bound, met):
    """All places as a ring that begins with those met so far meets them; None if there is none."""
    if len(met) == len(steps):
        return met if _is_closed(steps, bound, met) else None
    place = met[-1]
    # If a bound tie leads on, the ring goes there; from the first place by either one, as it can be gone round twofold.
    musts = [other for other in bound[place] if other not in met]
    choices = musts[:1] if musts else [other for other in steps[place] if other not in met]
    for other in choices:
        found = _met_in_turn(steps, bound, met + [other])
        if found is not None:
            return found
    return None


def _is_closed(steps, bound, met):
    """Whether the last place leads back to the first one, and the ring goes over all bound ties."""
    if met[0] not in steps[met[-1]]:
        return False
    for before, place, behind in zip(met[-1:] + met[:-1], met, met[1:] + met[:1]):
        if [other for other in bound[place] if other not in (before, behind)]:
            return False
    return True
