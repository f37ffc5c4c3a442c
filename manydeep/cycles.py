"""Cycles: pairs (begin, ring) of tuples that tell something for each number of rounds, however great.

At n below the length of begin they tell its item at n; from there on the items of ring in turn, again and again.
"""

from math import lcm


def item_at(cycle, n):
    """What a cycle tells for n rounds."""
    begin, ring = cycle
    return begin[n] if n < len(begin) else ring[(n - len(begin)) % len(ring)]


def first_items(cycle, many):
    """What a cycle tells for the first so many numbers of rounds, from 0 on, as a tuple."""
    return tuple([item_at(cycle, n) for n in range(many)])


def first_with(cycle, items):
    """The least n for which a cycle tells one of some items, None if there is none."""
    told = cycle[0] + cycle[1]
    found = [n for n in range(len(told)) if told[n] in items]
    return found[0] if found else None


def together(one, other):
    """The cycle of the pairs of what two cycles tell."""
    begin = max(len(one[0]), len(other[0]))
    many = begin + lcm(len(one[1]), len(other[1]))
    pairs = tuple(zip(first_items(one, many), first_items(other, many)))
    return pairs[:begin], pairs[begin:]


def shortest(begin, ring):
    """The cycle that tells the same with the shortest ring, and then with the shortest begin."""
    period = min([length for length in range(1, len(ring) + 1) if _goes_round(ring, length)])
    turned = ring[:period]
    kept = len(begin)
    # The item ahead of the ring goes into it if it is the one with which the ring ends.
    while kept > 0 and begin[kept - 1] == turned[-1]:
        kept = kept - 1
        turned = turned[-1:] + turned[:-1]
    return begin[:kept], turned


def _goes_round(ring, length):
    return len(ring) % length == 0 and ring[length:] == ring[:-length]
