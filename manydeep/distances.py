"""Distances after any number of rounds, exactly, and certificates of whether they are at most so great."""

from manydeep.addresses import need_address
from manydeep.checks import is_integer, is_just, is_tuple_of
from manydeep.errors import BadAddress
from manydeep.flows import joints_of, least_sums, least_way, sums_over
from manydeep.needs import need_book, need_garden, need_number, need_place, need_unlike_places
from manydeep.sketches import sketch, sketch_joints
from manydeep.tables import worths_behind, worths_until
from manydeep.ways import is_way


def end_numbers(book, n):
    """The tuple of the distances of the ends of the pieces of all kinds after n rounds, None where there is no way."""
    need_book(book)
    need_number(n, 0)
    return _numbers_until(book, n)[n]


def _numbers_until(book, n):
    return worths_until(book, n, _end_number)


def _end_number(growth, lengths):
    return least_sums(growth, lengths, 0)[1]


def distance_after(garden, p, q, n):
    """The distance of two places of the start after n rounds, None if there is no way."""
    need_garden(garden)
    start, book = garden
    need_place(start, p)
    need_place(start, q)
    need_number(n, 0)
    return least_sums(start, _numbers_until(book, n)[n], p)[q]


def farthest_after(garden, p, n):
    """The greatest distance of a place of the start and any place after n rounds, None if some place has no way."""
    need_garden(garden)
    start, book = garden
    need_place(start, p)
    need_number(n, 0)
    numbers = _numbers_until(book, n)
    sums = least_sums(start, numbers[n], p)
    if None in sums:
        return None
    farthest = max(sums)
    spans = _spans_in(start, sums)
    for lengths in reversed(numbers[:n]):
        further = []
        for (kind, more), least in _farthest_ones(spans):
            sums = _sums_from_ends(book[kind], lengths, least, more)
            if None in sums:
                return None
            farthest = max(farthest, max(sums))
            further.extend(_spans_in(book[kind], sums))
        spans = further
    return farthest


def _spans_in(web, sums):
    """For each tie of a web its span and the sum of the nearer one of its ends.

    A span is a kind and by how much the head of a tie is farther than its tail.
    """
    return [((kind, sums[head] - sums[tail]), min(sums[tail], sums[head])) for tail, head, kind in web[1]]


def _farthest_ones(spans):
    """For each span the farthest one of the ties that have it: no place in another one's piece is farther."""
    told = {}
    for span, least in spans:
        told[span] = max(told.get(span, 0), least)
    return list(told.items())


def _sums_from_ends(growth, lengths, least, more):
    """The least sums in a growth to whose nearer end one comes with the sum least."""
    ends = [(least + max(0, -more), 0), (least + max(0, more), 1)]
    return sums_over(growth[0], joints_of(growth, lengths), ends)


def judge_near(garden, p, q, n, d):
    """A certificate of whether the distance of two places of the start after n rounds is at most d."""
    _check_near(garden, p, q, n, d)
    start, book = garden
    numbers = _numbers_until(book, n)
    far = least_sums(start, numbers[n], p)[q]
    if far is None or far > d:
        return _over(garden, p, n, d)
    tables = [tuple([least_way(growth, lengths, 0, 1) for growth in book]) for lengths in numbers[:n]]
    return ("near", tuple(tables), least_way(start, numbers[n], p, q))


def _over(garden, p, n, d):
    start, book = garden
    steps = (1,) * len(book)
    tables = []
    for _ in range(n):
        table = tuple([_heights(growth, steps, 0, d + 1) for growth in book])
        steps = tuple([item[1] for item in table])
        tables.append(table)
    return ("over", tuple(tables), _heights(start, steps, p, d + 1))


def _heights(web, steps, begin, top):
    """Least sums as far as the top, which stands for all that is farther and for what has no way."""
    return tuple([top if far is None else min(far, top) for far in least_sums(web, steps, begin)])


def near_holds(garden, p, q, n, d, thing):
    """Whether any value is a right certificate of whether the distance of two places after n rounds is at most d."""
    _check_near(garden, p, q, n, d)
    if not is_tuple_of(thing, 3):
        return False
    start, book = garden
    if is_just(thing[0], "near"):
        sizes = worths_behind(book, n, thing[1], _is_sized_way_or_none, _size_or_none)
        return sizes is not None and _is_sized_way(start, p, q, sizes, thing[2]) and _size(start, sizes, thing[2]) <= d
    if not is_just(thing[0], "over"):
        return False
    steps = worths_behind(book, n, thing[1], _are_heights_of_growth, _second)
    return steps is not None and _are_heights(start, p, steps, thing[2]) and thing[2][q] > d


def _is_sized_way_or_none(growth, sizes, thing):
    return thing is None or _is_sized_way(growth, 0, 1, sizes, thing)


def _is_sized_way(web, begin, end, sizes, thing):
    """Whether any value is a way from begin to end of ties of kinds that have sizes."""
    if not is_way(web, begin, end, thing):
        return False
    return None not in [sizes[web[1][number][2]] for number in thing]


def _size_or_none(growth, sizes, item):
    return None if item is None else _size(growth, sizes, item)


def _size(web, sizes, way):
    return sum([sizes[web[1][number][2]] for number in way])


def _are_heights_of_growth(growth, steps, thing):
    return _are_heights(growth, 0, steps, thing) and thing[1] >= 0


def _are_heights(web, begin, steps, thing):
    """Whether any value has an integer for each place, 0 for begin, which differ at no tie by more than its step."""
    if not is_tuple_of(thing, web[0]) or not all([is_integer(height) for height in thing]) or thing[begin] != 0:
        return False
    return not [tie for tie in web[1] if abs(thing[tie[0]] - thing[tie[1]]) > steps[tie[2]]]


def _second(growth, steps, item):
    return item[1]


def _check_near(garden, p, q, n, d):
    need_garden(garden)
    need_unlike_places(garden[0], p, q)
    need_number(n, 0)
    need_number(d, 0)


def distance_between(garden, n, one, other):
    """The distance of the places with two addresses after n rounds, None if there is no way."""
    _check_addresses(garden, n, one, other)
    places, ties = sketch(garden, [one, other])
    joints = sketch_joints(places, ties, _numbers_until(garden[1], n))
    return sums_over(len(places), joints, [(0, places[other])])[places[one]]


def next_rows(garden, n, one, other):
    """The ascending tuple of the rows at one place whose ties begin a shortest way to another one after n rounds."""
    _check_addresses(garden, n, one, other)
    if one == other:
        raise BadAddress(other)
    book = garden[1]
    numbers = _numbers_until(book, n)
    places, ties = sketch(garden, [one, other])
    sums = sums_over(len(places), sketch_joints(places, ties, numbers), [(0, places[other])])
    found = []
    # The other place is not in a piece that is not opened: a way that begins in one leads through the whole of it.
    for row, tail, head, kind in ties:
        if one in (tail, head):
            end = 0 if one == tail else 1
            away = head if one == tail else tail
            left = n + 1 - len(row)
            if _leads_nearer(numbers[left][kind], sums[places[one]], sums[places[away]]):
                found.extend(_rows_through(book, numbers[:left], row, kind, end))
    return tuple(sorted(found))


def _leads_nearer(length, far, near):
    return length is not None and near is not None and near + length == far


def _rows_through(book, numbers, row, kind, end):
    """The rows of the ties that begin the least ways through a piece from one of its ends."""
    found = [(row, kind, end)]
    for lengths in reversed(numbers):
        further = []
        for longer, inside, at in found:
            further.extend(_first_ties(book[inside], lengths, longer, at))
        found = further
    return [longer for longer, inside, at in found]


def _first_ties(growth, lengths, row, end):
    """For each tie that begins a least way through a growth its row, its kind and which end of it comes first."""
    sums = least_sums(growth, lengths, 1 - end)
    found = []
    for number, (tail, head, kind) in enumerate(growth[1]):
        if end in (tail, head):
            away = head if end == tail else tail
            if _leads_nearer(lengths[kind], sums[end], sums[away]):
                found.append((row + (number,), kind, 0 if end == tail else 1))
    return found


def _check_addresses(garden, n, one, other):
    need_garden(garden)
    need_number(n, 0)
    need_address(garden, n, one)
    need_address(garden, n, other)
