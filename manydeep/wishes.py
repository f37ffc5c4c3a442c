"""Wishes, whether they hold for a web, and certificates of plain ones."""

from manydeep.checks import is_integer, is_integer_below, is_integer_within, is_just, is_tuple_of
from manydeep.errors import BadWish
from manydeep.needs import need_web
from manydeep.papers import PAPER_WORDS, is_paper, paper_for
from manydeep.webs import MOST_KINDS
from manydeep.wishrows import holds_with, tie_row

BARE_WORDS = ("joined", "sided", "paired", "round", "ringed", "whole", "even")


def is_wish(thing):
    """Whether any value is a wish."""
    # Not by recursion: a wish can be as deep as anybody likes.
    waiting = [thing]
    while waiting:
        part = waiting.pop()
        if _is_joint(part):
            waiting.extend(part[1:])
        elif not _is_plain(part):
            return False
    return True


def _is_joint(thing):
    if is_tuple_of(thing, 2):
        return is_just(thing[0], "not")
    return is_tuple_of(thing, 3) and (is_just(thing[0], "and") or is_just(thing[0], "or"))


def _is_plain(thing):
    if not isinstance(thing, tuple) or not thing or not isinstance(thing[0], str):
        return False
    word = thing[0]
    if word in BARE_WORDS:
        return len(thing) == 1
    if word == "hues":
        return len(thing) == 2 and is_integer_within(thing[1], 1, 5)
    if word == "number":
        return len(thing) == 4 and _is_remainder(thing)
    if word == "far":
        return len(thing) == 4 and _are_unlike_places(thing) and is_integer_within(thing[3], 1, 12)
    if word == "apart":
        return len(thing) == 4 and _are_unlike_places(thing) and is_integer_within(thing[3], 1, 6)
    return False


def _is_remainder(thing):
    kind, modulus, rest = thing[1:]
    right = is_integer_below(kind, MOST_KINDS) and is_integer_within(modulus, 2, 12)
    return right and is_integer_below(rest, modulus)


def _are_unlike_places(thing):
    one, other = thing[1:3]
    return is_integer(one) and is_integer(other) and min(one, other) >= 0 and one != other


def need_wish(wish):
    """Raise an error unless this is a wish."""
    if not is_wish(wish):
        raise BadWish(wish)


def does_hold(web, wish):
    """Whether a wish holds for a web."""
    need_web(web)
    need_wish(wish)
    return _does_hold(web, wish)


def _does_hold(web, wish):
    # A web is what comes of it if each tie gives way to a single tie.
    return holds_with(web, wish, tie_row(wish, MOST_KINDS))


def judge_plain(web, wish):
    """A certificate of whether a plain wish holds for a web: ("yes", paper) or ("no",)."""
    _need_wish_with_paper(web, wish)
    paper = paper_for(web, wish)
    return ("no",) if paper is None else ("yes", paper)


def plain_holds(web, wish, thing):
    """Whether any value is a right certificate of whether a plain wish holds for a web."""
    _need_wish_with_paper(web, wish)
    if is_just(thing, ("no",)):
        return not _does_hold(web, wish)
    return is_tuple_of(thing, 2) and is_just(thing[0], "yes") and is_paper(web, wish, thing[1])


def _need_wish_with_paper(web, wish):
    need_web(web)
    need_wish(wish)
    if wish[0] not in PAPER_WORDS:
        raise BadWish(wish)
