"""Least sums over ways, and greatest flows, of webs of which each kind of ties has a number."""


def least_sums(web, lengths, begin):
    """For each place the least sum of the lengths of ties' kinds over a way from begin to it, None if there is none.

    A kind that has the length None bears no way.
    """
    sums = [None] * web[0]
    sums[begin] = 0
    ties = [tie for tie in web[1] if lengths[tie[2]] is not None]
    shortened = True
    while shortened:
        shortened = False
        for tail, head, kind in ties:
            for one, other in ((tail, head), (head, tail)):
                if sums[one] is not None and (sums[other] is None or sums[one] + lengths[kind] < sums[other]):
                    sums[other] = sums[one] + lengths[kind]
                    shortened = True
    return sums


def greatest_flow(web, rooms, begin, end):
    """A flow of the greatest amount from begin to end, as a list of integers, one for each tie.

    The size of each is at most the room of the tie's kind; it is above 0 if it runs from the tail to the head.
    """
    near = [[] for _ in range(web[0])]
    for number, (tail, head, _) in enumerate(web[1]):
        near[tail].append((head, number, 1))
        near[head].append((tail, number, -1))
    room = [rooms[tie[2]] for tie in web[1]]
    flow = [0] * len(room)
    way = _open_way(near, room, flow, begin, end)
    while way:
        more = min([room[number] - sign * flow[number] for number, sign in way])
        for number, sign in way:
            flow[number] += sign * more
        way = _open_way(near, room, flow, begin, end)
    return flow


def _open_way(near, room, flow, begin, end):
    """The ties of a way of the fewest ties along which more can run, with their signs; () if there is none."""
    ways = {begin: ()}
    waiting = [begin]
    at = 0
    # The shortest way each time: so the number of times does not hang on how great the rooms are.
    while at < len(waiting) and end not in ways:
        place = waiting[at]
        at += 1
        for other, number, sign in near[place]:
            if other not in ways and sign * flow[number] < room[number]:
                ways[other] = ways[place] + ((number, sign),)
                waiting.append(other)
    return ways.get(end, ())


def amount(web, flow, place):
    """How much runs out of a place, less what runs into it."""
    out = [run for run, tie in zip(flow, web[1]) if tie[0] == place]
    into = [run for run, tie in zip(flow, web[1]) if tie[1] == place]
    return sum(out) - sum(into)
