"""Tallies: how many pairings, hues and trees a web has, by m, if its ties give way to pieces with number marks."""

from manydeep.huetallies import add_tally, hues_tallied
from manydeep.lots import LOTS, all_places, asked_by, inner_places
from manydeep.webs import MOST_KINDS


def tie_tally(count):
    """The number mark of one tie for a count."""
    if count[0] == "pairings":
        return (1, 0, 1, 0)
    if count[0] == "hues":
        return (0, 1 if count[1] > 1 else 0)
    return (1, 1)


def tally_mark(growth, count, row, m):
    """The number mark, by m, of a growth whose ties give way to pieces with the number marks of a row."""
    if count[0] == "pairings":
        tallies = _lots_tallied(growth, row, m)
        return tuple([tallies.get(inner_places(growth) + asked_by(lot, 0, 1), 0) for lot in LOTS])
    if count[0] == "hues":
        return tuple([hues_tallied(growth, row, count[1], m, ends) for ends in ((0, 0), (0, 1))])
    tallies = _trees_tallied(growth, row, m)
    apart = [parts for parts in tallies if max(parts) == 1]
    return (tallies.get((0,) * growth[0], 0), sum([tallies[parts] for parts in apart]) % m)


def tally_by(web, count, row, m):
    """The number, by m, that a web has whose ties give way to pieces with the number marks of a row."""
    if count[0] == "pairings":
        return _lots_tallied(web, row, m).get(all_places(web), 0)
    if count[0] == "hues":
        return hues_tallied(web, row, count[1], m, ())
    return _trees_tallied(web, row, m).get((0,) * web[0], 0)


def tally_of(web, count):
    """The number itself that a web has."""
    # More than hues, pairings and trees can be: each place has less than 8 hues, each tie is taken or not.
    most = 1 << (3 * web[0] + len(web[1]))
    return tally_by(web, count, (tie_tally(count),) * MOST_KINDS, most)


def _lots_tallied(web, row, m):
    """How many choices of lots ask just these places, each once, as a dict by the number that has the bit of each."""
    order = sorted([(min(tie[0], tie[1]), number) for number, tie in enumerate(web[1])])
    tallies = {0: 1}
    for least, number in order:
        # Behind here no tie asks a place below the least end of this one; of these only 0 and 1 may stay unasked.
        settled = ((1 << least) - 1) // 4 * 4
        ready = {asked: tallies[asked] for asked in tallies if asked & settled == settled}
        tail, head, kind = web[1][number]
        tallies = {}
        for lot, many in zip(LOTS, row[kind]):
            more = asked_by(lot, tail, head)
            for asked in ready:
                if more & asked == 0:
                    add_tally(tallies, asked + more, ready[asked] * many, m)
    return tallies


def _trees_tallied(web, row, m):
    """How many lots of ties without rings join the places to these parts, as a dict by the parts.

    Parts have, for each place, the least one that it is joined with.
    """
    tallies = {tuple(range(web[0])): 1}
    for tail, head, kind in web[1]:
        joined, apart = row[kind]
        further = {}
        for parts in tallies:
            add_tally(further, parts, tallies[parts] * apart, m)
            low = min(parts[tail], parts[head])
            high = max(parts[tail], parts[head])
            if low < high:
                merged = tuple([low if part == high else part for part in parts])
                add_tally(further, merged, tallies[parts] * joined, m)
        tallies = further
    return tallies
