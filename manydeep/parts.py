"""Which places of a web are joined, and on which side they stand."""


def parts_of(places, pairs):
    """For each place the least one that is joined with it by way of these pairs of places."""
    near = [[] for _ in range(places)]
    for one, other in pairs:
        near[one].append(other)
        near[other].append(one)
    parts = [None] * places
    for place in range(places):
        if parts[place] is None:
            _spread(near, parts, place)
    return parts


def _spread(near, parts, first):
    waiting = [first]
    parts[first] = first
    while waiting:
        place = waiting.pop()
        for other in near[place]:
            if parts[other] is None:
                parts[other] = first
                waiting.append(other)


def are_joined(places, pairs):
    """Whether these pairs join all places."""
    return max(parts_of(places, pairs)) == 0


def sides_of(places, steps):
    """For each place a pair: the least place that is joined with it, and on which side of that one it stands.

    Steps are triples: two places, and 1 if they stand on two sides, 0 if they stand on one. None if steps gainsay.
    """
    # Each place is there twice, once on each side: where both are joined, the steps gainsay one another.
    pairs = []
    for one, other, step in steps:
        pairs.append((2 * one, 2 * other + step))
        pairs.append((2 * one + 1, 2 * other + 1 - step))
    parts = parts_of(2 * places, pairs)
    sides = [(parts[2 * place] // 2, parts[2 * place] & 1) for place in range(places)]
    gainsaid = [place for place in range(places) if parts[2 * place] == parts[2 * place + 1]]
    return None if gainsaid else sides
