"""Ways of a web, told by the numbers of their ties."""

from manydeep.checks import is_integer_below


def is_way(web, begin, end, thing):
    """Whether any value is a way from begin to end, as the tuple of its ties' numbers in their order."""
    if not isinstance(thing, tuple):
        return False
    met = [begin]
    for number in thing:
        if not is_integer_below(number, len(web[1])):
            return False
        tail, head, _ = web[1][number]
        if met[-1] not in (tail, head):
            return False
        met.append(head if met[-1] == tail else tail)
    return met[-1] == end and len(set(met)) == len(met)


def ways_of(web, flow, begin, end, many):
    """So many ways from begin to end of which a flow of at most one at each tie consists, as tuples of numbers."""
    left = list(flow)
    return tuple([_way_taken(web, left, begin, end) for _ in range(many)])


def _way_taken(web, left, begin, end):
    """A way along what is left of a flow, which is taken out of it."""
    met = [begin]
    way = []
    while met[-1] != end:
        number, place = _step_on(web, left, met[-1])
        left[number] = 0
        way.append(number)
        # What runs in a ring is left out: a way meets no place twice.
        kept = met.index(place) if place in met else len(met)
        met = met[:kept] + [place]
        way = way[:kept]
    return tuple(way)


def _step_on(web, left, place):
    """The number of a tie along which something runs out of a place, and the place to which it runs."""
    for number, (tail, head, _) in enumerate(web[1]):
        if tail == place and left[number] > 0:
            return number, head
        if head == place and left[number] < 0:
            return number, tail
    return None
