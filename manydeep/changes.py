"""Changes of a garden and of what is promised of it; each tells the new garden and the new promises."""

from manydeep.checks import is_integer_below, is_just
from manydeep.errors import (BadChange, BadGrowth, BadKind, BadNumber, BadTie, BadWeb, BadWish, Full, InUse, LastKind)
from manydeep.eyes import ends_exchanged
from manydeep.rounds import book_power, one_round
from manydeep.webs import MOST_KINDS, has_kinds_below, is_growth, is_tie, is_web
from manydeep.wishes import is_wish

LENGTHS = {
    "start": 2, "growth": 3, "kind": 2, "drop": 1, "turn": 2, "tie": 3, "cut": 3, "grow": 1, "power": 2, "promise": 2,
    "free": 2,
}


def changed(garden, promises, change):
    """The pair of the garden and the promises behind a change, which can be any value."""
    if not _is_change(change):
        raise BadChange(0)
    if change[0] == "promise":
        return garden, _promised(promises, change[1])
    if change[0] == "free":
        return garden, _freed(promises, change[1])
    action = ACTIONS[change[0]]
    return action(garden, change), promises


def _is_change(thing):
    """Whether any value is a tuple of a right word and of the length that is right for it."""
    if not isinstance(thing, tuple) or not thing or not isinstance(thing[0], str):
        return False
    return thing[0] in LENGTHS and len(thing) == LENGTHS[thing[0]]


def _promised(promises, wish):
    if not is_wish(wish) or wish in promises:
        raise BadWish(wish)
    return promises + (wish,)


def _freed(promises, wish):
    # Without the first look, a bool could be taken for an integer.
    if not is_wish(wish) or wish not in promises:
        raise BadWish(wish)
    return tuple([other for other in promises if other != wish])


def _need_kind(book, c):
    if not is_integer_below(c, len(book)):
        raise BadKind(c)


def _with_growth(book, c, growth):
    return book[:c] + (growth,) + book[c + 1:]


def _web_at(garden, where):
    start, book = garden
    if is_just(where, "start"):
        return start
    _need_kind(book, where)
    return book[where]


def _with_ties(garden, where, ties):
    """The garden in which the start, or a growth, has these ties."""
    start, book = garden
    web = (_web_at(garden, where)[0], tuple(sorted(ties)))
    return (web, book) if where == "start" else (start, _with_growth(book, where, web))


def _start_put(garden, change):
    web = change[1]
    book = garden[1]
    if not is_web(web) or not has_kinds_below(web, len(book)):
        raise BadWeb(web)
    return web, book


def _growth_put(garden, change):
    _, c, web = change
    start, book = garden
    _need_kind(book, c)
    if not is_growth(web) or not has_kinds_below(web, len(book)):
        raise BadGrowth(web)
    return start, _with_growth(book, c, web)


def _kind_added(garden, change):
    web = change[1]
    start, book = garden
    if not is_growth(web) or not has_kinds_below(web, len(book) + 1):
        raise BadGrowth(web)
    if len(book) == MOST_KINDS:
        raise Full()
    return start, book + (web,)


def _kind_dropped(garden, change):
    start, book = garden
    last = len(book) - 1
    if last == 0:
        raise LastKind()
    if not all([has_kinds_below(web, last) for web in (start,) + book[:last]]):
        raise InUse(last)
    return start, book[:last]


def _growth_turned(garden, change):
    c = change[1]
    start, book = garden
    _need_kind(book, c)
    return start, _with_growth(book, c, ends_exchanged(book[c]))


def _tie_put(garden, change):
    _, where, tie = change
    places, ties = _web_at(garden, where)
    if not is_tie(places, tie) or tie[2] >= len(garden[1]):
        raise BadTie(tie)
    return _with_ties(garden, where, ties + (tie,))


def _tie_cut(garden, change):
    _, where, t = change
    ties = _web_at(garden, where)[1]
    if not is_integer_below(t, len(ties)):
        raise BadNumber(t)
    return _with_ties(garden, where, ties[:t] + ties[t + 1:])


def _start_grown(garden, change):
    start, book = garden
    return one_round(start, book), book


def _book_raised(garden, change):
    start, book = garden
    return start, book_power(book, change[1])


ACTIONS = {
    "start": _start_put, "growth": _growth_put, "kind": _kind_added, "drop": _kind_dropped, "turn": _growth_turned,
    "tie": _tie_put, "cut": _tie_cut, "grow": _start_grown, "power": _book_raised,
}
