"""Rows of marks of any wish: each plain wish in it is led by itself."""

from manydeep.checks import is_just, is_tuple_of
from manydeep.pieces import all_marks, growth_mark, plain_holds_with, tie_mark


def is_mark(wish, thing):
    """Whether any value is a mark that a wish can have."""
    if wish[0] == "not":
        return is_mark(wish[1], thing)
    if wish[0] in ("and", "or"):
        return is_tuple_of(thing, 2) and is_mark(wish[1], thing[0]) and is_mark(wish[2], thing[1])
    return any([is_just(thing, mark) for mark in all_marks(wish)])


def tie_row(wish, kinds):
    """The row of marks of single ties, of so many kinds."""
    if wish[0] == "not":
        return tie_row(wish[1], kinds)
    if wish[0] in ("and", "or"):
        return tuple(zip(tie_row(wish[1], kinds), tie_row(wish[2], kinds)))
    return tuple([tie_mark(wish, kind) for kind in range(kinds)])


def led_row(book, wish, row):
    """The row of marks one round behind a row."""
    if wish[0] == "not":
        return led_row(book, wish[1], row)
    if wish[0] in ("and", "or"):
        return tuple(zip(led_row(book, wish[1], _item_row(row, 0)), led_row(book, wish[2], _item_row(row, 1))))
    return tuple([growth_mark(growth, wish, row) for growth in book])


def holds_with(web, wish, row):
    """Whether a wish holds for a web whose ties give way to pieces with the marks of a row."""
    if wish[0] == "not":
        return not holds_with(web, wish[1], row)
    if wish[0] == "and":
        return holds_with(web, wish[1], _item_row(row, 0)) and holds_with(web, wish[2], _item_row(row, 1))
    if wish[0] == "or":
        return holds_with(web, wish[1], _item_row(row, 0)) or holds_with(web, wish[2], _item_row(row, 1))
    return plain_holds_with(web, wish, row)


def _item_row(row, at):
    return tuple([mark[at] for mark in row])
