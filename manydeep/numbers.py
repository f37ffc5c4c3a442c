"""Numbers of pairings, of hues and of trees after any number of rounds, by their remainders."""

from manydeep.checks import is_integer, is_integer_within, is_just, is_tuple_of
from manydeep.errors import BadCount
from manydeep.needs import need_book, need_garden, need_modulus, need_number, need_web
from manydeep.tallies import tally_by, tally_mark, tally_of, tie_tally


def is_count(thing):
    """Whether any value is a count."""
    if is_just(thing, ("pairings",)) or is_just(thing, ("trees",)):
        return True
    return is_tuple_of(thing, 2) and is_just(thing[0], "hues") and is_integer_within(thing[1], 1, 5)


def _need_count(count):
    if not is_count(count):
        raise BadCount(count)


def number_of(web, count):
    """How many pairings, hues or trees a web has."""
    need_web(web)
    _need_count(count)
    return tally_of(web, count)


def number_by(garden, count, n, m):
    """The remainder by m of the number after n rounds."""
    need_garden(garden)
    _need_count(count)
    need_number(n, 0)
    need_modulus(m)
    start, book = garden
    return tally_by(start, count, _row_after(book, count, n, m), m)


def number_marks(book, count, n, m):
    """The tuple of the number marks, by m, of the pieces of all kinds after n rounds."""
    need_book(book)
    _need_count(count)
    need_number(n, 0)
    need_modulus(m)
    return _row_after(book, count, n, m)


def _first_row(book, count):
    return (tie_tally(count),) * len(book)


def _led_row(book, count, row, m):
    return tuple([tally_mark(growth, count, row, m) for growth in book])


def _row_after(book, count, n, m):
    rows = []
    numbers = {}
    row = _first_row(book, count)
    while len(rows) < n:
        if row in numbers:
            # From here on the rows come again in turn.
            first = numbers[row]
            return rows[first + (n - first) % (len(rows) - first)]
        numbers[row] = len(rows)
        rows.append(row)
        row = _led_row(book, count, row, m)
    return row


def judge_divided(garden, count, m):
    """A certificate of whether m divides the number after n rounds for all n."""
    _check_divided(garden, count, m)
    start, book = garden
    rows = []
    met = {}
    row = _first_row(book, count)
    while row not in met:
        if tally_by(start, count, row, m) > 0:
            return ("rest", len(rows))
        met[row] = True
        rows.append(row)
        row = _led_row(book, count, row, m)
    return ("divided", tuple(rows + [row]))


def divided_holds(garden, count, m, thing):
    """Whether any value is a right certificate of whether m divides the number after n rounds for all n."""
    _check_divided(garden, count, m)
    if not is_tuple_of(thing, 2):
        return False
    start, book = garden
    if is_just(thing[0], "rest"):
        n = thing[1]
        return is_integer(n) and n >= 0 and tally_by(start, count, _row_after(book, count, n, m), m) > 0
    return is_just(thing[0], "divided") and _show_divided(garden, count, m, thing[1])


def _show_divided(garden, count, m, thing):
    """Whether any value is a tuple of the rows of number marks in turn, until one comes again, that m divides."""
    if not isinstance(thing, tuple):
        return False
    start, book = garden
    met = {}
    row = _first_row(book, count)
    for at, item in enumerate(thing):
        if not is_just(item, row):
            return False
        if at == len(thing) - 1:
            return row in met
        if row not in met and tally_by(start, count, row, m) > 0:
            return False
        met[row] = True
        row = _led_row(book, count, row, m)
    return False


def _check_divided(garden, count, m):
    need_garden(garden)
    _need_count(count)
    need_modulus(m)
