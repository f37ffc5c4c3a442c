"""Rows of ties and addresses of places: whence they come, round by round."""

from manydeep.checks import is_integer_below, is_tuple_of
from manydeep.errors import BadAddress, BadPlace, BadRow
from manydeep.needs import need_garden, need_number
from manydeep.sums import handed_on
from manydeep.tracks import tracks_after


def is_row(garden, thing):
    """Whether any value is a row of some tie after some number of rounds."""
    need_garden(garden)
    return _kind_told(garden, thing) is not None


def row_kind(garden, row):
    """The kind of the tie with a row."""
    need_garden(garden)
    kind = _kind_told(garden, row)
    if kind is None:
        raise BadRow(row)
    return kind


def row_ends(garden, row):
    """The addresses of the tail and the head of the tie with a row."""
    need_garden(garden)
    if _kind_told(garden, row) is None:
        raise BadRow(row)
    web, book = garden
    tail, head, kind = web[1][row[0]]
    ends = (((), tail), ((), head))
    for length in range(1, len(row)):
        tail, head, inside = book[kind][1][row[length]]
        ends = (_end(ends, row[:length], tail), _end(ends, row[:length], head))
        kind = inside
    return ends


def _end(ends, row, place):
    """The address of a place of the growth that is put in the place of the tie with a row."""
    return ends[place] if place < 2 else (row, place)


def _kind_told(garden, thing):
    """The kind of any value that is a row, None if it is none."""
    if not isinstance(thing, tuple):
        return None
    web, book = garden
    kind = None
    for number in thing:
        if not is_integer_below(number, len(web[1])):
            return None
        kind = web[1][number][2]
        web = book[kind]
    return kind


def is_address(garden, thing):
    """Whether any value is the address of some place after some number of rounds."""
    need_garden(garden)
    return _is_address(garden, thing)


def need_address(garden, n, address):
    """Raise an error unless this is the address of a place after n rounds."""
    if not _is_address(garden, address) or len(address[0]) > n:
        raise BadAddress(address)


def _is_address(garden, thing):
    if not is_tuple_of(thing, 2):
        return False
    row, place = thing
    if is_tuple_of(row, 0):
        return is_integer_below(place, garden[0][0])
    kind = _kind_told(garden, row)
    return kind is not None and is_integer_below(place, garden[1][kind][0]) and place >= 2


def degrees(garden, address, n):
    """How many ties of each kind have a place as their tail, and as their head, after n rounds."""
    _check_place_after(garden, address, n)
    row, place = address
    book = garden[1]
    as_tail = [_degrees_in(growth, 0, len(book)) for growth in book]
    as_head = [_degrees_in(growth, 1, len(book)) for growth in book]
    counts = _degrees_in(_birthplace(garden, row), place, len(book))
    for _ in range(n - len(row)):
        # What was put in has the place as its tail end, or as its head end.
        counts = handed_on(counts, as_tail + as_head)
    return tuple(counts[:len(book)]), tuple(counts[len(book):])


def _degrees_in(web, place, kinds):
    """How many ties of each kind have the place as their tail, and behind them as their head."""
    counts = [0] * (2 * kinds)
    for tail, head, kind in web[1]:
        if tail == place:
            counts[kind] += 1
        if head == place:
            counts[kinds + kind] += 1
    return counts


def rows_at(garden, address, n):
    """The ascending tuple of the rows of all ties that have a place as an end after n rounds."""
    _check_place_after(garden, address, n)
    row, place = address
    found = _rows_in(_birthplace(garden, row), row, place)
    for _ in range(n - len(row)):
        found = _rows_led(garden[1], found)
    return tuple(sorted([longer for longer, end, kind in found]))


def _rows_in(web, row, place):
    """For each tie at a place of a web a triple: the row with its number behind, which end the place is, the kind."""
    found = []
    for number, (tail, head, kind) in enumerate(web[1]):
        if place in (tail, head):
            found.append((row + (number,), 0 if tail == place else 1, kind))
    return found


def _rows_led(book, found):
    led = []
    for row, end, kind in found:
        led.extend(_rows_in(book[kind], row, end))
    return led


def _birthplace(garden, row):
    """The start, or the growth that was put in the place of the tie with a row."""
    return garden[1][_kind_told(garden, row)] if row else garden[0]


def _check_place_after(garden, address, n):
    need_garden(garden)
    if not _is_address(garden, address):
        raise BadAddress(address)
    need_number(n, len(address[0]))


def address_of(garden, n, place):
    """The address of a place of the web after n rounds."""
    addresses = _addresses_after(garden, n)
    if not is_integer_below(place, len(addresses)):
        raise BadPlace(place)
    return addresses[place]


def place_of(garden, n, address):
    """The place of the web after n rounds that has an address."""
    addresses = _addresses_after(garden, n)
    need_address(garden, n, address)
    return addresses.index(address)


def _addresses_after(garden, n):
    """The addresses of all places after n rounds, in the order of the places."""
    need_garden(garden)
    need_number(n, 0)
    start, book = garden
    bearing = tracks_after(garden, n)[:n]
    addresses = [((), place) for place in range(start[0])]
    for tracks in bearing:
        for tie, row in tracks:
            addresses.extend([(row, place) for place in range(2, book[tie[2]][0])])
    return addresses
