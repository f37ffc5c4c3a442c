"""Rows of thick growths as words: powers, exchanges, and what fits between; products are not made here."""

from manydeep.checks import is_integer, is_just, is_tuple_of
from manydeep.eyes import seen_renaming
from manydeep.thick import is_row, need_row


def are_equal_rows(one, other):
    """Whether two rows have one length and, at equal positions, growths that are the same to the eye."""
    need_row(one)
    need_row(other)
    return _are_equal(one, other)


def _are_equal(one, other):
    letters = _letters(one + other)
    return letters[:len(one)] == letters[len(one):]


def _letters(growths):
    """For each growth the least position at which one stands that is the same to the eye."""
    letters = []
    for at, growth in enumerate(growths):
        alike = [first for first in letters if seen_renaming(growths[first], growth) is not None]
        letters.append(alike[0] if alike else at)
    return letters


def root_of(row):
    """The pair of the shortest beginning of a row of whose powers the row is one, to the eye, and the exponent."""
    need_row(row)
    length = _root_length(_letters(row))
    return row[:length], len(row) // length


def _root_length(letters):
    lengths = [length for length in range(1, len(letters) + 1) if len(letters) % length == 0]
    return min([length for length in lengths if letters[:length] * (len(letters) // length) == letters])


def judge_exchange(one, other):
    """A certificate of whether two rows can be exchanged."""
    need_row(one)
    need_row(other)
    letters = _letters(one + other)
    apart = _least_apart(letters[:len(one)], letters[len(one):])
    if apart is not None:
        return ("apart", apart)
    # Two rows that can be exchanged are powers of one: so they are of the root of both together.
    length = _root_length(letters)
    return ("powers", one[:length], len(one) // length, len(other) // length)


def _least_apart(one, other):
    """The least position at which both ways of following one another differ, None if they are equal."""
    differ = [at for at, (mine, others) in enumerate(zip(one + other, other + one)) if mine != others]
    return differ[0] if differ else None


def exchange_holds(one, other, thing):
    """Whether any value is a right certificate of whether two rows can be exchanged."""
    need_row(one)
    need_row(other)
    if is_tuple_of(thing, 2) and is_just(thing[0], "apart"):
        letters = _letters(one + other)
        return is_integer(thing[1]) and thing[1] == _least_apart(letters[:len(one)], letters[len(one):])
    if not is_tuple_of(thing, 4) or not is_just(thing[0], "powers") or not is_row(thing[1]):
        return False
    return _is_power(one, thing[1], thing[2]) and _is_power(other, thing[1], thing[3])


def _is_power(row, root, thing):
    """Whether any value is the exponent with which a row is, to the eye, a power of a root."""
    # By the length first: the exponent can be any integer.
    return is_integer(thing) and len(root) * thing == len(row) and _are_equal(row, root * thing)


def fitting_row(one, other):
    """The shortest x, perhaps (), with one + x equal to x + other to the eye; None if there is none."""
    need_row(one)
    need_row(other)
    letters = _letters(one + other)
    mine = letters[:len(one)]
    others = letters[len(one):]
    # The other row has to be the first one turned round.
    turns = [at for at in range(len(one)) if mine[at:] + mine[:at] == others]
    return one[:turns[0]] if turns else None
