"""The marks of pieces, and what they tell of a growth or a web whose ties give way to such pieces."""

from manydeep.flows import amount, greatest_flow, least_sums
from manydeep.hangs import (holds_joined, holds_ringed, holds_whole, joined_mark, ringed_mark, sided_mark, sides_by,
                            whole_mark)
from manydeep.loops import ring_found
from manydeep.lots import LOTS, all_places, asked_by, inner_places, lots_chosen
from manydeep.tints import hues_chosen

BOOLS = (False, True)
TIE_MARKS = {
    "joined": "one", "sided": "odd", "paired": ((), (0, 1)), "round": (True, True, False), "ringed": (True, "tied"),
    "whole": "bare", "even": (True, 1, 1), "far": 1, "apart": 1,
}
ALL_MARKS = {
    "joined": ("one", "two", "loose"),
    "sided": ("broken", "free", "odd", "even"),
    "paired": ((), ((),), ((0, 1),), ((), (0, 1)), ((0,),), ((1,),), ((0,), (1,))),
    "round": ((False, False, False), (False, False, True), (False, True, False), (False, True, True),
              (True, False, False), (True, True, False), (True, True, True)),
    "ringed": ((True, "always"), (True, "tied"), (True, "never"), (False, "always"), (False, "never")),
    "whole": ("no", "bare", "self", "tied", "bad"),
    "even": ((False, 0, 0), (False, 0, 1), (False, 1, 0), (False, 1, 1), (True, 0, 0), (True, 1, 1)),
}


def all_marks(wish):
    """All marks that a plain wish can have, as a list."""
    word = wish[0]
    if word == "hues":
        return [(same, unlike) for same in BOOLS for unlike in BOOLS if wish[1] > 1 or not unlike]
    if word == "number":
        return list(range(wish[2]))
    if word == "far":
        return list(range(1, wish[3] + 1))
    if word == "apart":
        return list(range(wish[3] + 1))
    return list(ALL_MARKS[word])


def tie_mark(wish, kind):
    """The mark of one tie of a kind for a plain wish."""
    if wish[0] == "hues":
        return (False, wish[1] > 1)
    if wish[0] == "number":
        return 1 if kind == wish[1] else 0
    return TIE_MARKS[wish[0]]


def growth_mark(growth, wish, row):
    """The mark, for a plain wish, of a growth whose ties give way to pieces with the marks of a row."""
    word = wish[0]
    if word == "joined":
        return joined_mark(growth, row)
    if word == "sided":
        return sided_mark(growth, row)
    if word == "hues":
        return tuple([hues_chosen(growth, row, wish[1], ends) is not None for ends in ((0, 0), (0, 1))])
    if word == "paired":
        return tuple([lot for lot in LOTS if lots_asked(growth, row, lot) is not None])
    if word == "round":
        return _round_mark(growth, row)
    if word == "ringed":
        return ringed_mark(growth, row)
    if word == "whole":
        return whole_mark(growth, row)
    if word == "even":
        odd = _odd_places(growth, row)
        return (_are_even_inside(growth, row) and 1 not in odd[2:], odd[0], odd[1])
    if word == "number":
        return _marks_summed(growth, row) % wish[2]
    if word == "far":
        least = least_sums(growth, row, 0)[1]
        return wish[3] if least is None else min(least, wish[3])
    return min(_ways_apart(growth, row, 0, 1), wish[3])


def plain_holds_with(web, wish, row):
    """Whether a plain wish holds for a web whose ties give way to pieces with the marks of a row."""
    word = wish[0]
    if word == "joined":
        return holds_joined(web, row)
    if word == "sided":
        return sides_by(web, row) is not None
    if word == "hues":
        return hues_chosen(web, row, wish[1], ()) is not None
    if word == "paired":
        return lots_chosen(web, row, all_places(web)) is not None
    if word == "round":
        return _holds_round(web, row)
    if word == "ringed":
        return holds_ringed(web, row, ())
    if word == "whole":
        return holds_whole(web, row)
    if word == "even":
        return _are_even_inside(web, row) and 1 not in _odd_places(web, row)
    if word == "number":
        return _marks_summed(web, row) % wish[2] == wish[3]
    if max(wish[1], wish[2]) >= web[0]:
        return False
    if word == "far":
        least = least_sums(web, row, wish[1])[wish[2]]
        return least is None or least >= wish[3]
    return _ways_apart(web, row, wish[1], wish[2]) >= wish[3]


def lots_asked(growth, row, lot):
    """For each tie of a growth a lot out of its kind's mark, such that its inner places and a lot's ends are asked."""
    return lots_chosen(growth, row, inner_places(growth) + asked_by(lot, 0, 1))


def _round_mark(growth, row):
    places, ties = growth
    bare = places == 2 and not [tie for tie in ties if not row[tie[2]][0]]
    usable, needed = _ways_and_needs(growth, row)
    # A way between the ends becomes a ring by one more tie, which is needed.
    way = ring_found((places, ties + ((0, 1, 0),)), usable + [True], needed + [True])
    return (bare, way is not None, _holds_round(growth, row))


def _holds_round(web, row):
    usable, needed = _ways_and_needs(web, row)
    if ring_found(web, usable, needed) is not None:
        return True
    return web[0] == 2 and _has_ring_in_piece(web, row, needed)


def _has_ring_in_piece(web, row, needed):
    """Whether a ring that meets all places lies in one piece of a web of two places."""
    for number, tie in enumerate(web[1]):
        # There must be no inner places but those of this piece.
        if row[tie[2]][2] and True not in needed[:number] + needed[number + 1:]:
            return True
    return False


def _ways_and_needs(web, row):
    """For each tie whether a way can meet all places of its piece, and whether it has to, for its inner ones."""
    marks = [row[tie[2]] for tie in web[1]]
    return [mark[1] for mark in marks], [not mark[0] for mark in marks]


def _odd_places(web, row):
    """For each place of the web the remainder by 2 of the number of ties that come to it."""
    odd = [0] * web[0]
    for tail, head, kind in web[1]:
        odd[tail] = (odd[tail] + row[kind][1]) & 1
        odd[head] = (odd[head] + row[kind][2]) & 1
    return odd


def _are_even_inside(web, row):
    return not [tie for tie in web[1] if not row[tie[2]][0]]


def _marks_summed(web, row):
    return sum([row[tie[2]] for tie in web[1]])


def _ways_apart(web, row, one, other):
    return amount(web, greatest_flow(web, row, one, other), one)
