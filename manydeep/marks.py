"""Marks rows: all that a wish notices of the pieces of a book, led from round to round."""

from manydeep.errors import BadMarks
from manydeep.needs import need_book, need_number, need_web
from manydeep.orbits import row_after
from manydeep.webs import MOST_KINDS, has_kinds_below
from manydeep.wishes import need_wish
from manydeep.wishrows import holds_with, is_mark, led_row


def marks_row(book, wish, n):
    """The tuple of the marks of the pieces of all kinds after n rounds."""
    need_book(book)
    need_wish(wish)
    need_number(n, 0)
    return row_after(book, wish, n)


def next_row(book, wish, row):
    """The marks row one round behind a row that some book of the same length has."""
    need_book(book)
    need_wish(wish)
    if not _are_marks(wish, row) or len(row) != len(book):
        raise BadMarks(row)
    return led_row(book, wish, row)


def holds_by(start, wish, row):
    """Whether a wish holds for a start each tie of which gives way to a piece with the mark of its kind."""
    need_web(start)
    need_wish(wish)
    if not _are_marks(wish, row) or not has_kinds_below(start, len(row)):
        raise BadMarks(row)
    return holds_with(start, wish, row)


def _are_marks(wish, thing):
    """Whether any value is a tuple of as many marks of a wish as some book has growths."""
    return isinstance(thing, tuple) and 1 <= len(thing) <= MOST_KINDS and all([is_mark(wish, mark) for mark in thing])
