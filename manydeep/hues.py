"""Hue numbers: how many hues a web needs, after each number of rounds."""

from manydeep.calendars import ALWAYS, calendar_of
from manydeep.checks import is_integer, is_just, is_tuple_of
from manydeep.cycles import first_with, item_at, shortest, together
from manydeep.needs import need_garden, need_number, need_web
from manydeep.pieces import plain_holds_with
from manydeep.webs import MOST_KINDS
from manydeep.wishrows import tie_row


def hue_number(web):
    """The least number of hues that can be given to the places of a web."""
    need_web(web)
    k = 1
    while not plain_holds_with(web, ("hues", k), tie_row(("hues", k), MOST_KINDS)):
        k = k + 1
    return k


def hue_number_after(garden, n):
    """The hue number of the web of a garden after n rounds."""
    need_garden(garden)
    need_number(n, 0)
    return item_at(hue_calendar(garden), n)


def hue_calendar(garden):
    """The pair (begin, ring) that tells the hue number for each number of rounds."""
    need_garden(garden)
    numbers = ((), (1,))
    k = 1
    told = calendar_of(garden, ("hues", k))
    while told != ALWAYS:
        # Where k hues are not enough, no fewer are: so each k that is not enough counts once.
        begin, ring = together(numbers, told)
        numbers = shortest(_one_more_unless(begin), _one_more_unless(ring))
        k = k + 1
        told = calendar_of(garden, ("hues", k))
    return numbers


def _one_more_unless(pairs):
    return tuple([number if enough else number + 1 for number, enough in pairs])


def judge_enough(garden, k):
    """A certificate of whether k hues are enough after each number of rounds."""
    told, most = _calendar_and_most(garden, k)
    if most <= k:
        return ("enough", first_with(told, (most,)))
    return ("lacks", first_with(told, list(range(k + 1, most + 1))))


def enough_holds(garden, k, thing):
    """Whether any value is a right certificate of whether k hues are enough after each number of rounds."""
    told, most = _calendar_and_most(garden, k)
    if not is_tuple_of(thing, 2) or not is_integer(thing[1]) or thing[1] < 0:
        return False
    number = item_at(told, thing[1])
    if is_just(thing[0], "enough"):
        return number == most and most <= k
    return is_just(thing[0], "lacks") and number > k


def _calendar_and_most(garden, k):
    need_garden(garden)
    need_number(k, 1)
    told = hue_calendar(garden)
    return told, max(told[0] + told[1])
