"""Plans: by a sheet for each round, a pairing or hues of webs of any number of ties."""

from manydeep.checks import is_just, is_tuple_of
from manydeep.cycles import first_items
from manydeep.demands import are_met_by_ties, choice_for, is_right_choice, sorted_by_kind
from manydeep.errors import BadPlan, BadWish
from manydeep.needs import need_garden, need_number
from manydeep.orbits import plain_rows
from manydeep.tracks import tracks_after
from manydeep.wishes import is_wish


def judge_plan(garden, wish, n):
    """A certificate of whether a wish holds after n rounds: a plan, or ("none", rows)."""
    _check(garden, wish, n)
    start, book = garden
    rows = first_items(plain_rows(book, wish), n + 1)
    first = choice_for(start, wish, rows[n], None)
    if first is None:
        return ("none", rows)
    standing = sorted_by_kind([start], wish, [first], len(book))
    sheets = []
    # The marks of what comes of a tie in the rounds that are left tell which demands can be met.
    for row in reversed(rows[:n]):
        sheet = tuple([_page(growth, wish, row, demands) for growth, demands in zip(book, standing)])
        standing = _standing_behind(book, wish, sheet)
        sheets.append(sheet)
    return ("plan", first, tuple(sheets))


def _page(growth, wish, row, demands):
    return tuple([(demand, choice_for(growth, wish, row, demand)) for demand in demands])


def _standing_behind(book, wish, sheet):
    """For each kind the ascending tuple of the demands that stand on its ties behind a round."""
    growths = []
    choices = []
    for growth, page in zip(book, sheet):
        for _, choice in page:
            growths.append(growth)
            choices.append(choice)
    return sorted_by_kind(growths, wish, choices, len(book))


def plan_holds(garden, wish, n, thing):
    """Whether any value is a right certificate of whether a wish holds after n rounds."""
    _check(garden, wish, n)
    if is_tuple_of(thing, 2) and is_just(thing[0], "none"):
        return is_tuple_of(thing[1], n + 1) and _shows_none(garden, wish, thing[1])
    return _is_plan(garden, wish, n, thing)


def _shows_none(garden, wish, thing):
    start, book = garden
    rows = first_items(plain_rows(book, wish), len(thing))
    return is_just(thing, rows) and choice_for(start, wish, rows[-1], None) is None


def _is_plan(garden, wish, n, thing):
    start, book = garden
    if not is_tuple_of(thing, 3) or not is_just(thing[0], "plan") or not is_tuple_of(thing[2], n):
        return False
    if not is_right_choice(start, wish, None, thing[1]):
        return False
    standing = sorted_by_kind([start], wish, [thing[1]], len(book))
    for sheet in thing[2]:
        if not _is_sheet(book, wish, standing, sheet):
            return False
        standing = _standing_behind(book, wish, sheet)
    return all([are_met_by_ties(wish, demands) for demands in standing])


def _is_sheet(book, wish, standing, thing):
    """Whether any value has a page for each kind, with right choices for just the demands that stand on its ties."""
    if not is_tuple_of(thing, len(book)):
        return False
    return all([_is_page(growth, wish, demands, page) for growth, demands, page in zip(book, standing, thing)])


def _is_page(growth, wish, demands, thing):
    if not is_tuple_of(thing, len(demands)):
        return False
    return all([_is_entry(growth, wish, demand, entry) for demand, entry in zip(demands, thing)])


def _is_entry(growth, wish, demand, thing):
    return is_tuple_of(thing, 2) and is_just(thing[0], demand) and is_right_choice(growth, wish, demand, thing[1])


def unfolded(garden, wish, n, plan):
    """The pairing, or the hues, of the web after n rounds that a plan tells."""
    _check(garden, wish, n)
    if not _is_plan(garden, wish, n, plan):
        raise BadPlan(plan)
    tracks = tracks_after(garden, n)
    if wish[0] == "paired":
        return _pairing(plan, tracks)
    return _hues(wish, plan, tracks)


def _pairing(plan, tracks):
    """The numbers of the ties of the last round on which (0, 1) is demanded."""
    _, first, sheets = plan
    demands = {(number,): lot for number, lot in enumerate(first)}
    for sheet, ties in zip(sheets, tracks):
        told = [dict(page) for page in sheet]
        further = {}
        for tie, row in ties:
            for number, lot in enumerate(told[tie[2]][demands[row]]):
                further[row + (number,)] = lot
        demands = further
    return tuple([number for number, (tie, row) in enumerate(tracks[-1]) if demands[row] == (0, 1)])


def _hues(wish, plan, tracks):
    """The hues of the places of the last round, which each round adds to."""
    _, first, sheets = plan
    hues = list(first)
    for sheet, ties in zip(sheets, tracks):
        told = [dict(page) for page in sheet]
        for (tail, head, kind), _ in ties:
            choice = told[kind][hues[tail] == hues[head]]
            names = _hues_by_item(wish[1], hues[tail], hues[head])
            hues.extend([names[item] for item in choice[2:]])
    return tuple(hues)


def _hues_by_item(k, tail, head):
    """The hues for which the items of a choice stand at a tie whose ends have these hues."""
    ends = [tail] if tail == head else [tail, head]
    return ends + [hue for hue in range(k) if hue not in ends]


def _check(garden, wish, n):
    need_garden(garden)
    if not is_wish(wish) or wish[0] not in ("paired", "hues"):
        raise BadWish(wish)
    need_number(n, 0)
