"""The refusal of arguments that are not of the kind that many functions ask for."""

from manydeep.checks import is_integer, is_integer_below
from manydeep.errors import BadBook, BadGarden, BadGrowth, BadModulus, BadNumber, BadPlace, BadWeb
from manydeep.webs import is_book, is_garden, is_growth, is_web


def need_web(web):
    """Raise an error unless this is a web."""
    if not is_web(web):
        raise BadWeb(web)


def need_growth(growth):
    """Raise an error unless this is a growth."""
    if not is_growth(growth):
        raise BadGrowth(growth)


def need_book(book):
    """Raise an error unless this is a book."""
    if not is_book(book):
        raise BadBook(book)


def need_garden(garden):
    """Raise an error unless this is a garden."""
    if not is_garden(garden):
        raise BadGarden(garden)


def need_number(n, least):
    """Raise an error unless this is an integer from least on."""
    if not is_integer(n) or n < least:
        raise BadNumber(n)


def need_modulus(m):
    """Raise an error unless this is an integer from 2 on."""
    if not is_integer(m) or m < 2:
        raise BadModulus(m)


def need_place(web, place):
    """Raise an error unless this is a place of a web."""
    if not is_integer_below(place, web[0]):
        raise BadPlace(place)


def need_unlike_places(web, p, q):
    """Raise an error unless these are two places of a web; the second one is to blame if both are equal."""
    need_place(web, p)
    need_place(web, q)
    if p == q:
        raise BadPlace(q)
