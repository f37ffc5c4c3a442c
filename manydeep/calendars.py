"""Calendars: after which numbers of rounds a wish holds, for all of them at once."""

from manydeep.checks import is_integer, is_just, is_tuple_of
from manydeep.cycles import first_items, first_with, item_at, shortest, together
from manydeep.needs import need_garden, need_number
from manydeep.orbits import all_rows, plain_rows
from manydeep.pieces import plain_holds_with
from manydeep.wishes import need_wish

ALWAYS = ((), (True,))


def calendar(garden, wish):
    """The pair (begin, ring) that tells for each number of rounds whether a wish holds."""
    need_garden(garden)
    need_wish(wish)
    return calendar_of(garden, wish)


def calendar_of(garden, wish):
    """The calendar of what surely are a garden and a wish, also of a wish for more hues than wishes have."""
    if wish[0] == "not":
        begin, ring = calendar_of(garden, wish[1])
        return tuple([not told for told in begin]), tuple([not told for told in ring])
    if wish[0] in ("and", "or"):
        begin, ring = together(calendar_of(garden, wish[1]), calendar_of(garden, wish[2]))
        enough = [(True, True)] if wish[0] == "and" else [(True, True), (True, False), (False, True)]
        return shortest(_are_among(begin, enough), _are_among(ring, enough))
    start, book = garden
    begin, ring = plain_rows(book, wish)
    return shortest(_holds_by_each(start, wish, begin), _holds_by_each(start, wish, ring))


def _are_among(pairs, enough):
    return tuple([pair in enough for pair in pairs])


def _holds_by_each(start, wish, rows):
    return tuple([plain_holds_with(start, wish, row) for row in rows])


def holds_after(garden, wish, n):
    """Whether a wish holds after n rounds."""
    told = calendar(garden, wish)
    need_number(n, 0)
    return item_at(told, n)


def first_time(garden, wish):
    """The least number of rounds after which a wish holds, None if there is none."""
    return first_with(calendar(garden, wish), (True,))


def judge_always(garden, wish):
    """A certificate of whether a wish holds after n rounds for all n."""
    told = calendar(garden, wish)
    if told != ALWAYS:
        return ("fails", first_with(told, (False,)))
    begin, ring = all_rows(garden[1], wish)
    return ("always", begin + ring + ring[:1])


def always_holds(garden, wish, thing):
    """Whether any value is a right certificate of whether a wish holds after n rounds for all n."""
    told = calendar(garden, wish)
    if not is_tuple_of(thing, 2):
        return False
    if is_just(thing[0], "fails"):
        return _is_time_of(told, False, thing[1])
    return is_just(thing[0], "always") and told == ALWAYS and _are_rows_until_again(garden[1], wish, thing[1])


def _is_time_of(cycle, item, thing):
    """Whether any value is a number of rounds for which a cycle tells an item."""
    return is_integer(thing) and thing >= 0 and item_at(cycle, thing) == item


def _are_rows_until_again(book, wish, thing):
    """Whether any value is a tuple of the marks rows in turn, the last of which stands ahead of itself."""
    if not isinstance(thing, tuple):
        return False
    begin, ring = all_rows(book, wish)
    # All rows of begin and ring are unlike: so behind them, and not sooner, each one has come before.
    return len(thing) > len(begin + ring) and is_just(thing, first_items((begin, ring), len(thing)))


def judge_minds(one, other, wish):
    """A certificate of whether two gardens are like-minded for a wish."""
    mine, others = _both_calendars(one, other, wish)
    apart = first_with(together(mine, others), ((True, False), (False, True)))
    return ("same", mine[0], mine[1]) if apart is None else ("apart", apart)


def minds_hold(one, other, wish, thing):
    """Whether any value is a right certificate of whether two gardens are like-minded for a wish."""
    mine, others = _both_calendars(one, other, wish)
    if is_tuple_of(thing, 2) and is_just(thing[0], "apart"):
        both = together(mine, others)
        return _is_time_of(both, (True, False), thing[1]) or _is_time_of(both, (False, True), thing[1])
    return mine == others and is_just(thing, ("same", mine[0], mine[1]))


def judge_beneath(one, other, wish):
    """A certificate of whether the first garden is beneath the second one for a wish."""
    mine, others = _both_calendars(one, other, wish)
    above = first_with(together(mine, others), ((True, False),))
    return ("beneath",) if above is None else ("above", above)


def beneath_holds(one, other, wish, thing):
    """Whether any value is a right certificate of whether the first garden is beneath the second one for a wish."""
    mine, others = _both_calendars(one, other, wish)
    both = together(mine, others)
    if is_tuple_of(thing, 2) and is_just(thing[0], "above"):
        return _is_time_of(both, (True, False), thing[1])
    return is_just(thing, ("beneath",)) and first_with(both, ((True, False),)) is None


def _both_calendars(one, other, wish):
    need_garden(one)
    need_garden(other)
    need_wish(wish)
    return calendar_of(one, wish), calendar_of(other, wish)
