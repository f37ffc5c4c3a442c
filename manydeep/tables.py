"""Tables of certificates: one for each round, with an item for the growth of each kind."""

from manydeep.checks import is_tuple_of


def worths_behind(book, n, tables, is_right, worth):
    """The tuple of the worths of all kinds behind the last one of n tables; None if any value is no n right tables.

    Ahead of the first table all worths are 1. is_right tells of a growth, the worths ahead of a table and any value
    whether this is an item of the growth's kind; worth tells of them the worth behind the table.
    """
    if not is_tuple_of(tables, n):
        return None
    worths = (1,) * len(book)
    for table in tables:
        if not is_tuple_of(table, len(book)):
            return None
        if not all([is_right(growth, worths, item) for growth, item in zip(book, table)]):
            return None
        worths = tuple([worth(growth, worths, item) for growth, item in zip(book, table)])
    return worths


def worths_until(book, n, next_worth):
    """The list of the tuples of the worths of all kinds after 0 to n rounds.

    After 0 rounds all worths are 1; next_worth tells of a growth and the worths after a round its next worth.
    """
    told = [(1,) * len(book)]
    for _ in range(n):
        told.append(tuple([next_worth(growth, told[-1]) for growth in book]))
    return told
