"""The marks rows of a book and a wish, round by round, until they come again."""

from manydeep.cycles import item_at, together
from manydeep.wishrows import led_row, tie_row


def plain_rows(book, wish):
    """The cycle of the marks rows of a plain wish."""
    rows = []
    numbers = {}
    row = tie_row(wish, len(book))
    while row not in numbers:
        numbers[row] = len(rows)
        rows.append(row)
        row = led_row(book, wish, row)
    return tuple(rows[:numbers[row]]), tuple(rows[numbers[row]:])


def all_rows(book, wish):
    """The cycle of the marks rows of any wish, the rows of its begin and its ring being all unlike."""
    if wish[0] == "not":
        return all_rows(book, wish[1])
    if wish[0] in ("and", "or"):
        begin, ring = together(all_rows(book, wish[1]), all_rows(book, wish[2]))
        return _rows_of_pairs(begin), _rows_of_pairs(ring)
    return plain_rows(book, wish)


def _rows_of_pairs(pairs):
    return tuple([tuple(zip(one, other)) for one, other in pairs])


def row_after(book, wish, n):
    """The marks row of any wish after n rounds."""
    # Each plain wish by itself: all of them together may come again after very many rounds only.
    if wish[0] == "not":
        return row_after(book, wish[1], n)
    if wish[0] in ("and", "or"):
        return tuple(zip(row_after(book, wish[1], n), row_after(book, wish[2], n)))
    return item_at(plain_rows(book, wish), n)
