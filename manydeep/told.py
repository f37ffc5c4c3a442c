"""Shelves of gardens, one of which is grown unseen, and what facts tell of it."""

from itertools import combinations

from manydeep.calendars import calendar_of
from manydeep.checks import is_integer, is_integer_below, is_just, is_tuple_of
from manydeep.cycles import first_with, item_at, shortest, together
from manydeep.errors import BadFacts, BadShelf, BadWish, NoneLeft
from manydeep.needs import need_number
from manydeep.webs import is_garden
from manydeep.wishes import is_wish, need_wish

MOST_GARDENS = 12
UNLIKE = ((True, False), (False, True))


def _need_shelf(shelf):
    if not isinstance(shelf, tuple) or not 1 <= len(shelf) <= MOST_GARDENS:
        raise BadShelf(shelf)
    if not all([is_garden(garden) for garden in shelf]):
        raise BadShelf(shelf)


def _need_facts(facts):
    if not isinstance(facts, tuple) or not all([_is_fact(fact) for fact in facts]):
        raise BadFacts(facts)


def _is_fact(thing):
    if not is_tuple_of(thing, 3):
        return False
    wish, n, truth = thing
    return is_wish(wish) and is_integer(n) and n >= 0 and isinstance(truth, bool)


def _need_wishes(wishes):
    if not isinstance(wishes, tuple) or not wishes:
        raise BadWish(wishes)
    for wish in wishes:
        need_wish(wish)


def left(shelf, facts):
    """The ascending tuple of the positions of the gardens of a shelf that are left by facts."""
    _need_shelf(shelf)
    _need_facts(facts)
    return _positions_left(shelf, facts)


def _positions_left(shelf, facts):
    wishes = []
    for wish, n, truth in facts:
        if wish not in wishes:
            wishes.append(wish)
    positions = []
    for position, garden in enumerate(shelf):
        told = _calendars(garden, wishes)
        if not [fact for fact in facts if item_at(told[wishes.index(fact[0])], fact[1]) != fact[2]]:
            positions.append(position)
    return tuple(positions)


def _calendars(garden, wishes):
    return [calendar_of(garden, wish) for wish in wishes]


def _gardens_left(shelf, facts):
    positions = _positions_left(shelf, facts)
    if not positions:
        raise NoneLeft()
    return [shelf[position] for position in positions]


def sure(shelf, facts, wish, n):
    """Whether a wish surely holds after n rounds: True, False, or None if it is not sure."""
    _need_shelf(shelf)
    _need_facts(facts)
    need_wish(wish)
    need_number(n, 0)
    answers = [item_at(calendar_of(garden, wish), n) for garden in _gardens_left(shelf, facts)]
    return answers[0] if answers.count(answers[0]) == len(answers) else None


def sure_calendar(shelf, facts, wish):
    """The pair (begin, ring) that tells for each number of rounds whether a wish surely holds."""
    _need_shelf(shelf)
    _need_facts(facts)
    need_wish(wish)
    gardens = _gardens_left(shelf, facts)
    surely = calendar_of(gardens[0], wish)
    for garden in gardens[1:]:
        begin, ring = together(surely, calendar_of(garden, wish))
        surely = shortest(_where_equal(begin), _where_equal(ring))
    return surely


def _where_equal(pairs):
    return tuple([one if one == other else None for one, other in pairs])


def keen(shelf, facts, wishes, most):
    """The question that surely leaves the fewest gardens, None if no question up to most rounds parts those left."""
    _need_shelf(shelf)
    _need_facts(facts)
    _need_wishes(wishes)
    need_number(most, 0)
    told = [_calendars(garden, wishes) for garden in _gardens_left(shelf, facts)]
    found = []
    for n in range(most + 1):
        for i in range(len(wishes)):
            yes = len([row for row in told if item_at(row[i], n)])
            if 0 < yes < len(told):
                found.append((max(yes, len(told) - yes), n, i))
    if not found:
        return None
    _, n, i = min(found)
    return (i, n)


def judge_lots(shelf, wishes):
    """A certificate of which gardens of a shelf are like-minded for each of some wishes, and what parts the others."""
    _need_shelf(shelf)
    _need_wishes(wishes)
    told = [_calendars(garden, wishes) for garden in shelf]
    lots = _lots_of(told)
    questions = [_parting(told[one[0]], told[other[0]]) for one, other in combinations(lots, 2)]
    return ("lots", tuple([tuple(lot) for lot in lots]), tuple(questions))


def _lots_of(told):
    """The lists of the positions at which equal calendars stand, in the order of their first items."""
    lots = []
    for position, row in enumerate(told):
        mine = [lot for lot in lots if told[lot[0]] == row]
        if mine:
            mine[0].append(position)
        else:
            lots.append([position])
    return lots


def _parting(one, other):
    """A question that is answered otherwise by unlike rows of calendars."""
    found = []
    for i, (mine, others) in enumerate(zip(one, other)):
        if mine != others:
            found.append((i, first_with(together(mine, others), UNLIKE)))
    return found[0]


def lots_hold(shelf, wishes, thing):
    """Whether any value is a right certificate of which gardens of a shelf are like-minded for each of some wishes."""
    _need_shelf(shelf)
    _need_wishes(wishes)
    if not is_tuple_of(thing, 3) or not is_just(thing[0], "lots"):
        return False
    told = [_calendars(garden, wishes) for garden in shelf]
    lots = _lots_of(told)
    if not is_just(thing[1], tuple([tuple(lot) for lot in lots])):
        return False
    pairs = list(combinations(lots, 2))
    if not is_tuple_of(thing[2], len(pairs)):
        return False
    for (one, other), question in zip(pairs, thing[2]):
        if not _is_parting(told[one[0]], told[other[0]], question):
            return False
    return True


def _is_parting(one, other, thing):
    """Whether any value is a question that is answered otherwise by two rows of calendars."""
    if not is_tuple_of(thing, 2) or not is_integer_below(thing[0], len(one)):
        return False
    i, n = thing
    return is_integer(n) and n >= 0 and item_at(one[i], n) != item_at(other[i], n)
