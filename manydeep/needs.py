"""The refusal of arguments that are not of the kind that many functions ask for."""

from manydeep.checks import is_integer
from manydeep.errors import BadBook, BadGarden, BadModulus, BadNumber, BadWeb
from manydeep.webs import is_book, is_garden, is_web


def need_web(web):
    """Raise an error unless this is a web."""
    if not is_web(web):
        raise BadWeb(web)


def need_book(book):
    """Raise an error unless this is a book."""
    if not is_book(book):
        raise BadBook(book)


def need_garden(garden):
    """Raise an error unless this is a garden."""
    if not is_garden(garden):
        raise BadGarden(garden)


def need_number(n, least):
    """Raise an error unless this is an integer from least on."""
    if not is_integer(n) or n < least:
        raise BadNumber(n)


def need_modulus(m):
    """Raise an error unless this is an integer from 2 on."""
    if not is_integer(m) or m < 2:
        raise BadModulus(m)
