"""Ways apart: how many there are after any number of rounds, and certificates of whether there are so many."""

from manydeep.addresses import need_address
from manydeep.checks import is_integer, is_integer_below, is_just, is_tuple_of
from manydeep.errors import BadAddress
from manydeep.flows import amount, flow_over, greatest_flow, reached
from manydeep.needs import need_book, need_garden, need_number, need_unlike_places, need_web
from manydeep.sketches import sketch, sketch_joints
from manydeep.tables import worths_behind, worths_until
from manydeep.ways import is_way, ways_of
from manydeep.webs import MOST_KINDS


def stream_numbers(book, n):
    """The tuple of the numbers of ways apart between the ends of the pieces of all kinds after n rounds."""
    need_book(book)
    need_number(n, 0)
    return _numbers_until(book, n)[n]


def _numbers_until(book, n):
    return worths_until(book, n, _stream_number)


def _stream_number(growth, rooms):
    return _greatest_amount(growth, rooms, 0, 1)


def _greatest_amount(web, rooms, begin, end):
    return amount(web, greatest_flow(web, rooms, begin, end), begin)


def stream_after(garden, p, q, n):
    """How many ways apart there are between two places of the start after n rounds."""
    _check_stream(garden, p, q, n)
    start, book = garden
    return _greatest_amount(start, _numbers_until(book, n)[n], p, q)


def _check_stream(garden, p, q, n):
    need_garden(garden)
    need_unlike_places(garden[0], p, q)
    need_number(n, 0)


def judge_stream(garden, p, q, n, a):
    """A certificate of whether there are so many ways apart between two places of the start after n rounds."""
    _check_stream(garden, p, q, n)
    need_number(a, 1)
    start, book = garden
    numbers = _numbers_until(book, n)
    flow = greatest_flow(start, numbers[n], p, q)
    if amount(start, flow, p) >= a:
        tables = [tuple([tuple(greatest_flow(growth, rooms, 0, 1)) for growth in book]) for rooms in numbers[:n]]
        return ("stream", tuple(tables), tuple(flow))
    tables = [tuple([_least_cut(growth, costs) for growth in book]) for costs in numbers[:n]]
    return ("cut", tuple(tables), reached(start, numbers[n], flow, p))


def _least_cut(growth, costs):
    return reached(growth, costs, greatest_flow(growth, costs, 0, 1), 0)


def stream_holds(garden, p, q, n, a, thing):
    """Whether any value is a right certificate of whether there are so many ways apart after n rounds."""
    _check_stream(garden, p, q, n)
    need_number(a, 1)
    if not is_tuple_of(thing, 3):
        return False
    start, book = garden
    if is_just(thing[0], "stream"):
        rooms = worths_behind(book, n, thing[1], _is_flow_of_growth, _amount_of_growth)
        return rooms is not None and _is_flow(start, p, q, rooms, thing[2]) and amount(start, thing[2], p) >= a
    if not is_just(thing[0], "cut"):
        return False
    costs = worths_behind(book, n, thing[1], _is_lot_of_growth, _cost)
    return costs is not None and _is_lot(start, p, q, thing[2]) and _cost(start, costs, thing[2]) < a


def _is_flow_of_growth(growth, rooms, thing):
    return _is_flow(growth, 0, 1, rooms, thing) and amount(growth, thing, 0) >= 0


def _amount_of_growth(growth, rooms, item):
    return amount(growth, item, 0)


def _is_flow(web, begin, end, rooms, thing):
    """Whether any value has an integer for each tie, no greater than its room, of which nothing stays at a place."""
    if not is_tuple_of(thing, len(web[1])) or not all([is_integer(run) for run in thing]):
        return False
    if [run for run, tie in zip(thing, web[1]) if abs(run) > rooms[tie[2]]]:
        return False
    return not [place for place in range(web[0]) if place not in (begin, end) and amount(web, thing, place) != 0]


def _is_lot_of_growth(growth, costs, thing):
    return _is_lot(growth, 0, 1, thing)


def _is_lot(web, begin, end, thing):
    """Whether any value is an ascending tuple of places that has begin and not end."""
    if not isinstance(thing, tuple) or not all([is_integer_below(place, web[0]) for place in thing]):
        return False
    return list(thing) == sorted(set(thing)) and begin in thing and end not in thing


def _cost(web, costs, lot):
    return sum([costs[kind] for tail, head, kind in web[1] if (tail in lot) != (head in lot)])


def stream_between(garden, n, one, other):
    """How many ways apart there are between the places with two addresses after n rounds."""
    need_garden(garden)
    need_number(n, 0)
    need_address(garden, n, one)
    need_address(garden, n, other)
    if one == other:
        raise BadAddress(other)
    places, ties = sketch(garden, [one, other])
    joints = sketch_joints(places, ties, _numbers_until(garden[1], n))
    flow = flow_over(len(places), joints, places[one], places[other])
    return amount((len(places), joints), flow, places[one])


def apart_ways(web, p, q):
    """As many ways between two places as there can be, any two apart, each as the tuple of its ties' numbers."""
    _check_places(web, p, q)
    flow = _ways_as_flow(web, p, q)
    return ways_of(web, flow, p, q, amount(web, flow, p))


def are_apart_ways(web, p, q, thing):
    """Whether any value is a tuple of as many ways between two places as there can be, any two apart."""
    _check_places(web, p, q)
    many = amount(web, _ways_as_flow(web, p, q), p)
    if not is_tuple_of(thing, many) or not all([is_way(web, p, q, way) for way in thing]):
        return False
    numbers = []
    for way in thing:
        numbers.extend(way)
    return len(set(numbers)) == len(numbers)


def _ways_as_flow(web, p, q):
    # Each tie of the web itself bears one way.
    return greatest_flow(web, (1,) * MOST_KINDS, p, q)


def _check_places(web, p, q):
    need_web(web)
    need_unlike_places(web, p, q)
