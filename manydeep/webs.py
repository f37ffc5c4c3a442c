"""Webs, growths, books and gardens, and the renamings between them."""

from manydeep.errors import BadGrowth, BadRenaming, BadWeb
from manydeep.likeness import matching
from manydeep.checks import is_integer, is_integer_below, is_tuple_of

MOST_KINDS = 3


def is_web(thing):
    """Whether any value is a web."""
    if not is_tuple_of(thing, 2):
        return False
    places, ties = thing
    if not is_integer(places) or places < 1 or not isinstance(ties, tuple):
        return False
    # Only ties can be sorted without fear of an error.
    return all([is_tie(places, tie) for tie in ties]) and list(ties) == sorted(ties)


def is_tie(places, thing):
    """Whether any value is a tie of a web of so many places."""
    if not is_tuple_of(thing, 3):
        return False
    tail, head, kind = thing
    ends_are_places = is_integer_below(tail, places) and is_integer_below(head, places)
    return ends_are_places and tail != head and is_integer_below(kind, MOST_KINDS)


def is_growth(thing):
    """Whether any value is a growth."""
    return is_web(thing) and thing[0] >= 2


def is_book(thing):
    """Whether any value is a book."""
    if not isinstance(thing, tuple) or not 1 <= len(thing) <= MOST_KINDS:
        return False
    return all([is_growth(growth) and has_kinds_below(growth, len(thing)) for growth in thing])


def is_garden(thing):
    """Whether any value is a garden."""
    if not is_tuple_of(thing, 2):
        return False
    start, book = thing
    return is_web(start) and is_book(book) and has_kinds_below(start, len(book))


def has_kinds_below(web, end):
    """Whether all ties of a web have kinds below end."""
    return all([tie[2] < end for tie in web[1]])


def led(web, renaming):
    """The web to which a renaming leads a web."""
    if not is_web(web):
        raise BadWeb(web)
    places, ties = web
    if not _is_renaming(places, renaming):
        raise BadRenaming(renaming)
    return places, tuple(sorted([(renaming[tail], renaming[head], kind) for tail, head, kind in ties]))


def _is_renaming(places, thing):
    if not is_tuple_of(thing, places) or not all([is_integer(item) for item in thing]):
        return False
    return sorted(thing) == list(range(places))


def renaming_between(one, other):
    """Any renaming that leads the first web to the second one, None if there is none."""
    for web in (one, other):
        if not is_web(web):
            raise BadWeb(web)
    return matching(one, other, 0)


def growth_renaming(one, other):
    """Any renaming that leads the first growth to the second one and leaves 0 and 1, None if there is none."""
    for growth in (one, other):
        if not is_growth(growth):
            raise BadGrowth(growth)
    return matching(one, other, 2)
