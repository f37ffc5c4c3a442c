"""Demands on ties, and choices that meet them: the pages of plans."""

from manydeep.checks import is_integer_below, is_just, is_tuple_of
from manydeep.lots import LOTS, all_places, asked_by, inner_places, lots_chosen
from manydeep.tints import hues_chosen


def choice_for(web, wish, row, demand):
    """A right choice for a growth and a demand, for a start and None, whose demands the marks in a row allow.

    None if there is no such choice.
    """
    if wish[0] == "paired":
        return lots_chosen(web, row, _wanted(web, demand))
    return hues_chosen(web, row, wish[1], _hues_of_ends(demand))


def is_right_choice(web, wish, demand, thing):
    """Whether any value is a right choice for a growth and a demand, or for a start and None."""
    if wish[0] == "paired":
        return _are_lots(web, thing) and _asked_just_once(web, thing) == _wanted(web, demand)
    if not is_tuple_of(thing, web[0]) or not all([is_integer_below(hue, wish[1]) for hue in thing]):
        return False
    ends = _hues_of_ends(demand)
    return thing[:len(ends)] == ends


def _wanted(web, lot):
    return all_places(web) if lot is None else inner_places(web) + asked_by(lot, 0, 1)


def _hues_of_ends(have_one_hue):
    if have_one_hue is None:
        return ()
    return (0, 0) if have_one_hue else (0, 1)


def _are_lots(web, thing):
    if not is_tuple_of(thing, len(web[1])):
        return False
    return all([any([is_just(item, lot) for lot in LOTS]) for item in thing])


def _asked_just_once(web, lots):
    """The places that lots ask, as a number that has the bit of each; None if a place is asked twice."""
    asked = 0
    for lot, (tail, head, _) in zip(lots, web[1]):
        more = asked_by(lot, tail, head)
        if more & asked != 0:
            return None
        asked = asked + more
    return asked


def demands_on(web, wish, choice):
    """The demands on the ties of a web, in their order, that come of a choice."""
    if wish[0] == "paired":
        return choice
    return tuple([choice[tail] == choice[head] for tail, head, kind in web[1]])


def are_met_by_ties(wish, demands):
    """Whether single ties meet all these demands."""
    met = ((), (0, 1)) if wish[0] == "paired" else (False,)
    return all([demand in met for demand in demands])


def sorted_by_kind(webs, wish, choices, kinds):
    """For each kind the ascending tuple of the demands that choices for webs put on its ties."""
    found = [[] for _ in range(kinds)]
    for web, choice in zip(webs, choices):
        for demand, tie in zip(demands_on(web, wish, choice), web[1]):
            found[tie[2]].append(demand)
    return [tuple(sorted(set(demands))) for demands in found]
