"""A second, plain search over all possibilities: what wishes and marks mean, word by word, on webs of few ties."""
import itertools


def near(web, place):
    """Pairs (tie number, other end) of all ties at a place."""
    found = []
    for number, (tail, head, _) in enumerate(web[1]):
        if place in (tail, head):
            found.append((number, head if place == tail else tail))
    return found


def ways(web, begin, end):
    """All ways from begin to end, each as the tuple of its ties' numbers."""
    def further(place, met, numbers):
        if place == end:
            yield numbers
            return
        for number, other in near(web, place):
            if other not in met:
                yield from further(other, met | {other}, numbers + (number,))
    return list(further(begin, {begin}, ()))


def is_joined(web, without=None):
    """Whether the web, perhaps without a place, is joined."""
    places = [place for place in range(web[0]) if place != without]
    met, waiting = {places[0]}, [places[0]]
    while waiting:
        for _, other in near(web, waiting.pop()):
            if other != without and other not in met:
                met.add(other)
                waiting.append(other)
    return len(met) == len(places)


def colorings(web, k):
    """All ways to give the places one of k hues such that no tie has one hue at both ends."""
    for hues in itertools.product(range(k), repeat=web[0]):
        if all(hues[tail] != hues[head] for tail, head, _ in web[1]):
            yield hues


def lots_of_ties(web):
    for many in range(len(web[1]) + 1):
        yield from itertools.combinations(range(len(web[1])), many)


def met_by(web, numbers):
    """How many of these ties each place is an end of."""
    met = [0] * web[0]
    for number in numbers:
        met[web[1][number][0]] += 1
        met[web[1][number][1]] += 1
    return met


def is_ring_of_all(web, numbers):
    """Whether a lot of ties is a ring that meets all places: each place twice, and all joined by them."""
    ring = (web[0], tuple(web[1][number] for number in numbers))
    return set(met_by(web, numbers)) == {2} and is_joined(ring)


def has_round(web):
    return any(is_ring_of_all(web, numbers) for numbers in itertools.combinations(range(len(web[1])), web[0]))


def is_tie_in_ring(web, number):
    tail, head, _ = web[1][number]
    rest = (web[0], web[1][:number] + web[1][number + 1:])
    return bool(ways(rest, tail, head))


def most_apart(lots):
    """How many of these lots there are at most of which no two have a member in common."""
    if not lots:
        return 0
    with_first = most_apart([lot for lot in lots[1:] if not set(lot) & set(lots[0])]) + 1
    return max(with_first, most_apart(lots[1:]))


def holds(web, wish):
    """Whether a wish holds for a web."""
    word, rest = wish[0], wish[1:]
    if word == "not":
        return not holds(web, rest[0])
    if word == "and":
        return holds(web, rest[0]) and holds(web, rest[1])
    if word == "or":
        return holds(web, rest[0]) or holds(web, rest[1])
    if word == "joined":
        return is_joined(web)
    if word == "sided":
        return any(True for _ in colorings(web, 2))
    if word == "hues":
        return any(True for _ in colorings(web, rest[0]))
    if word == "paired":
        return any(set(met_by(web, numbers)) == {1} for numbers in lots_of_ties(web))
    if word == "round":
        return has_round(web)
    if word == "ringed":
        return all(is_tie_in_ring(web, number) for number in range(len(web[1])))
    if word == "whole":
        return web[0] >= 2 and is_joined(web) and all(is_joined(web, place) for place in range(web[0]))
    if word == "even":
        return all(many % 2 == 0 for many in met_by(web, range(len(web[1]))))
    if word == "number":
        kind, modulus, remainder = rest
        return [tie[2] for tie in web[1]].count(kind) % modulus == remainder
    if max(rest[0], rest[1]) >= web[0]:
        return False
    found = ways(web, rest[0], rest[1])
    if word == "far":
        return all(len(way) >= rest[2] for way in found)
    assert word == "apart"
    return most_apart(found) >= rest[2]


def tied(web):
    """The web with one more tie from 0 to 1."""
    return (web[0], web[1] + ((0, 1, 0),))


def lot_of(web, numbers):
    """The ends of the lot that some ties have as ends just once; None if an inner place is not met just once."""
    met = met_by(web, numbers)
    if any(many != 1 for many in met[2:]) or max(met[:2]) > 1:
        return None
    return tuple(end for end in (0, 1) if met[end] == 1)


def mark(web, wish):
    """The mark of a piece for a wish, as 5.1 tells it."""
    word, rest = wish[0], wish[1:]
    if word == "not":
        return mark(web, rest[0])
    if word in ("and", "or"):
        return (mark(web, rest[0]), mark(web, rest[1]))
    ends_joined = bool(ways(web, 0, 1))
    inner = range(2, web[0])
    if word == "joined":
        hanging = [place for place in inner if not ways(web, place, 0) and not ways(web, place, 1)]
        return "loose" if hanging else "one" if ends_joined else "two"
    if word == "sided":
        if not holds(web, ("sided",)):
            return "broken"
        return "free" if not ends_joined else "odd" if len(ways(web, 0, 1)[0]) % 2 == 1 else "even"
    if word == "hues":
        pairs = [hues[0] == hues[1] for hues in colorings(web, rest[0])]
        return (True in pairs, False in pairs)
    if word == "paired":
        return tuple(sorted({lot_of(web, numbers) for numbers in lots_of_ties(web)} - {None}))
    if word == "round":
        return (web[0] == 2, any(len(way) == web[0] - 1 for way in ways(web, 0, 1)), has_round(web))
    if word == "ringed":
        return (ends_joined, "always" if holds(web, wish) else "tied" if holds(tied(web), wish) else "never")
    if word == "whole":
        if web[0] == 2:
            return "bare" if web[1] else "no"
        return "self" if holds(web, wish) else "tied" if holds(tied(web), wish) else "bad"
    met = met_by(web, range(len(web[1])))
    if word == "even":
        return (all(met[place] % 2 == 0 for place in inner), met[0] % 2, met[1] % 2)
    if word == "number":
        return [tie[2] for tie in web[1]].count(rest[0]) % rest[1]
    if word == "far":
        return min([rest[2]] + [len(way) for way in ways(web, 0, 1)])
    assert word == "apart"
    return min(rest[2], most_apart(ways(web, 0, 1)))


def put_in(web, book):
    """The web after one round, put together place by place, each with a name of its own."""
    places, ties = list(range(web[0])), []
    for number, (tail, head, kind) in enumerate(web[1]):
        names = [tail, head] + [(number, place) for place in range(2, book[kind][0])]
        places.extend(names[2:])
        ties.extend((names[a], names[b], c) for a, b, c in book[kind][1])
    return (len(places), tuple(sorted((places.index(a), places.index(b), c) for a, b, c in ties)))
