"""Least sums over ways, and greatest flows, of webs each of whose ties has a number.

Joints are triples: two places, and the number of what joins them.
"""

from heapq import heapify, heappop, heappush


def least_sums(web, lengths, begin):
    """For each place the least sum of the lengths of ties' kinds over a way from begin to it, None if there is none.

    A kind that has the length None bears no way.
    """
    return sums_over(web[0], joints_of(web, lengths), [(0, begin)])


def joints_of(web, numbers):
    """The joints of a web each kind of whose ties has a number; ties of kinds with None are left out."""
    return [(tail, head, numbers[kind]) for tail, head, kind in web[1] if numbers[kind] is not None]


def sums_over(places, joints, begins):
    """For each place the least sum over ways to it, None if there is none.

    Begins are pairs (sum, place): the ways begin at one of these places, and with its sum.
    """
    near = [[] for _ in range(places)]
    for one, other, length in joints:
        near[one].append((other, length))
        near[other].append((one, length))
    sums = [None] * places
    waiting = list(begins)
    heapify(waiting)
    while waiting:
        far, place = heappop(waiting)
        if sums[place] is None:
            sums[place] = far
            for other, length in near[place]:
                if sums[other] is None:
                    heappush(waiting, (far + length, other))
    return sums


def least_way(web, lengths, begin, end):
    """The numbers of the ties, in their order, of a way of the least sum, None if there is no way."""
    sums = least_sums(web, lengths, begin)
    if sums[end] is None:
        return None
    way = []
    place = end
    while place != begin:
        number, place = _step_back(web, lengths, sums, place)
        way.append(number)
    return tuple(reversed(way))


def _step_back(web, lengths, sums, place):
    """The number of a tie over which a least way comes to a place, and the place from which it comes."""
    found = []
    for number, (tail, head, kind) in enumerate(web[1]):
        if place in (tail, head) and lengths[kind] is not None:
            other = head if place == tail else tail
            if sums[other] is not None and sums[other] + lengths[kind] == sums[place]:
                found.append((number, other))
    return found[0]


def greatest_flow(web, rooms, begin, end):
    """A flow of the greatest amount from begin to end, as a list of integers, one for each tie.

    The size of each is at most the room of the tie's kind; it is above 0 if it runs from the tail to the head.
    """
    return flow_over(web[0], joints_of(web, rooms), begin, end)


def flow_over(places, joints, begin, end):
    """A flow of the greatest amount from begin to end, as a list of integers, one for each joint."""
    near = _near(places, joints)
    room = [joint[2] for joint in joints]
    flow = [0] * len(room)
    came = _came(near, room, flow, begin)
    while end in came:
        way = _traced(came, end)
        more = min([room[number] - sign * flow[number] for number, sign in way])
        for number, sign in way:
            flow[number] += sign * more
        came = _came(near, room, flow, begin)
    return flow


def reached(web, rooms, flow, begin):
    """The ascending tuple of the places to which more could run from begin; with a greatest flow they are cut off."""
    joints = joints_of(web, rooms)
    return tuple(sorted(_came(_near(web[0], joints), [joint[2] for joint in joints], flow, begin)))


def _near(places, joints):
    near = [[] for _ in range(places)]
    for number, (one, other, _) in enumerate(joints):
        near[one].append((other, number, 1))
        near[other].append((one, number, -1))
    return near


def _came(near, room, flow, begin):
    """For each place to which more can run: whence, over which joint and with which sign it comes there.

    All come by the fewest joints: so the number of times does not hang on how great the rooms are.
    """
    came = {begin: None}
    waiting = [begin]
    at = 0
    while at < len(waiting):
        place = waiting[at]
        at += 1
        for other, number, sign in near[place]:
            if other not in came and sign * flow[number] < room[number]:
                came[other] = (place, number, sign)
                waiting.append(other)
    return came


def _traced(came, end):
    """The joints over which more can run to the end, with their signs."""
    way = []
    step = came[end]
    while step is not None:
        place, number, sign = step
        way.append((number, sign))
        step = came[place]
    return way


def amount(web, flow, place):
    """How much runs out of a place, less what runs into it."""
    out = [run for run, tie in zip(flow, web[1]) if tie[0] == place]
    into = [run for run, tie in zip(flow, web[1]) if tie[1] == place]
    return sum(out) - sum(into)
