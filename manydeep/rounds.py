"""Rounds: every tie of a web gives way to the growth of its kind."""

from manydeep.errors import BadBook, TooMany
from manydeep.needs import need_book, need_garden, need_modulus, need_number, need_web
from manydeep.sums import handed_on
from manydeep.webs import has_kinds_below

MOST_PLACES = 400
MOST_TIES = 600


def one_round(web, book):
    """The web after one round by a book."""
    need_web(web)
    need_book(book)
    if not has_kinds_below(web, len(book)):
        raise BadBook(book)
    return _after_round(web, book)


def grown(garden, n):
    """The web of a garden after n rounds."""
    need_garden(garden)
    need_number(n, 0)
    start, book = garden
    return _after_steps(start, book, n, _after_round)


def joined_book(one, other):
    """The growths of the first book after one round by the second one."""
    need_book(one)
    need_book(other)
    if len(one) != len(other):
        raise BadBook(other)
    return _joined(one, other)


def book_power(book, n):
    """The n-th power of a book."""
    need_book(book)
    need_number(n, 1)
    return _after_steps(book, book, n - 1, _joined)


def _after_steps(first, book, n, step):
    """What comes of something, a web or a book, by n steps of one sort, each by a book."""
    met = [first]
    while len(met) <= n:
        led = step(met[-1], book)
        if led in met:
            # From here on the same ones come again in turn.
            begin = met.index(led)
            return met[begin + (n - begin) % (len(met) - begin)]
        met.append(led)
    return met[n]


def _joined(one, other):
    return tuple([_after_round(growth, other) for growth in one])


def _after_round(web, book):
    places, made = put_in(web, book)
    return places, tuple(sorted([tie for tie, number, child in made]))


def put_in(web, book):
    """The number of places after a round, and for each tie that is put in a triple.

    The triple has the tie, the number of the tie that it comes of, and its number in that one's growth.
    """
    _refuse_too_many(web, book)
    places, ties = web
    made = []
    for number, (tail, head, kind) in enumerate(ties):
        size, inside = book[kind]
        names = [tail, head] + list(range(places, places + size - 2))
        places = places + size - 2
        for child, (a, b, c) in enumerate(inside):
            made.append(((names[a], names[b], c), number, child))
    return places, made


def _refuse_too_many(web, book):
    places, ties = web
    if places + sum([book[tie[2]][0] - 2 for tie in ties]) > MOST_PLACES:
        raise TooMany(MOST_PLACES)
    if sum([len(book[tie[2]][1]) for tie in ties]) > MOST_TIES:
        raise TooMany(MOST_TIES)


def ties_after(garden, n):
    """How many ties of each kind of the book the web has after n rounds."""
    return tuple(_counts_after(garden, n)[:-1])


def places_after(garden, n):
    """How many places the web has after n rounds."""
    return _counts_after(garden, n)[-1]


def ties_by(garden, n, m):
    """The remainders by m of the numbers of ties of each kind after n rounds."""
    return tuple(_counts_by(garden, n, m)[:-1])


def places_by(garden, n, m):
    """The remainder by m of the number of places after n rounds."""
    return _counts_by(garden, n, m)[-1]


def _counts_after(garden, n):
    need_garden(garden)
    need_number(n, 0)
    counts, gifts = _counts_and_gifts(garden)
    for _ in range(n):
        counts = handed_on(counts, gifts)
    return counts


def _counts_by(garden, n, m):
    need_garden(garden)
    need_number(n, 0)
    need_modulus(m)
    counts, gifts = _counts_and_gifts(garden)
    # Gifts are those of 1, 2, 4, .. rounds in turn: so even 10 ** 30 rounds are few steps.
    while n > 0:
        if n & 1 == 1:
            counts = _remainders(handed_on(counts, gifts), m)
        gifts = [_remainders(handed_on(row, gifts), m) for row in gifts]
        n = n // 2
    return _remainders(counts, m)


def _counts_and_gifts(garden):
    """The counts of the start, and what in a round comes of one tie of each kind and of one place.

    Counts are the numbers of ties of each kind, and behind them the number of places.
    """
    start, book = garden
    kinds = len(book)
    gifts = [_ties_counted(growth, kinds) + [growth[0] - 2] for growth in book]
    return _ties_counted(start, kinds) + [start[0]], gifts + [[0] * kinds + [1]]


def _ties_counted(web, kinds):
    counts = [0] * kinds
    for tie in web[1]:
        counts[tie[2]] += 1
    return counts


def _remainders(counts, m):
    return [count % m for count in counts]
