"""Thick growths with equal ends, and rows of them: from its product a row is read back."""

from manydeep.checks import is_integer, is_just, is_tuple_of
from manydeep.errors import BadRow, BadTies
from manydeep.eyes import has_kind_0_alone, is_close, is_even, is_seen_renaming, seen_renaming
from manydeep.needs import need_growth
from manydeep.readings import row_read
from manydeep.rounds import one_round
from manydeep.webs import is_growth


def is_thick(growth):
    """Whether a growth is thick."""
    need_growth(growth)
    return is_close(growth)


def is_even_ended(growth):
    """Whether a growth is, to the eye, the same with its ends exchanged."""
    need_growth(growth)
    _need_kind_0(growth)
    return is_even(growth)


def _need_kind_0(growth):
    if not has_kind_0_alone(growth):
        raise BadTies(growth)


def eye_renaming(one, other):
    """Any renaming that leads, to the eye, the first growth to the second one and leaves 0 and 1; None if none does."""
    need_growth(one)
    need_growth(other)
    _need_kind_0(one)
    _need_kind_0(other)
    return seen_renaming(one, other)


def is_row(thing):
    """Whether any value is a row: a tuple of one or more growths that are thick and even-ended."""
    if not isinstance(thing, tuple) or not thing:
        return False
    return all([is_growth(growth) and is_close(growth) and is_even(growth) for growth in thing])


def need_row(row):
    """Raise an error unless this is a row."""
    if not is_row(row):
        raise BadRow(row)


def product(row):
    """The first growth of a row after one round by each further one."""
    need_row(row)
    web = row[0]
    for growth in row[1:]:
        web = one_round(web, (growth,))
    return web


def read_back(growth):
    """Any row whose product is the same to the eye as a growth, None if there is none."""
    need_growth(growth)
    _need_kind_0(growth)
    return row_read(growth)


def judge_rows(one, other):
    """A certificate of whether the products of two rows are the same to the eye."""
    need_row(one)
    need_row(other)
    renamings = [seen_renaming(mine, others) for mine, others in zip(one, other)]
    if None in renamings:
        return ("apart", renamings.index(None))
    if len(one) != len(other):
        return ("apart", len(renamings))
    return ("same", tuple(renamings))


def rows_hold(one, other, thing):
    """Whether any value is a right certificate of whether the products of two rows are the same to the eye."""
    told = judge_rows(one, other)
    if not is_tuple_of(thing, 2) or not is_just(thing[0], told[0]):
        return False
    if told[0] == "apart":
        return is_integer(thing[1]) and thing[1] == told[1]
    if not is_tuple_of(thing[1], len(one)):
        return False
    return all([is_seen_renaming(mine, others, item) for mine, others, item in zip(one, other, thing[1])])
