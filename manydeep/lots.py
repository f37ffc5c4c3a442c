"""Lots: which of the ends of a tie are to be ends, just once, of what is chosen of it."""

LOTS = ((), (0,), (0, 1), (1,))


def asked_by(lot, tail, head):
    """The places that a lot asks at a tie, as a number that has the bit of each."""
    ends = (tail, head)
    return sum([1 << ends[end] for end in lot])


def all_places(web):
    """The places of a web, as a number that has the bit of each."""
    return (1 << web[0]) - 1


def inner_places(growth):
    """The inner places of a growth, as a number that has the bit of each."""
    return all_places(growth) - 3


def lots_chosen(web, offers, wanted):
    """For each tie one of the lots that are offered to its kind, as a tuple; None if there is no such choice.

    Each place that is wanted is asked just once, and no other one is.
    """
    order = sorted([(min(tie[0], tie[1]), number) for number, tie in enumerate(web[1])])
    layers = [{0: ()}]
    for least, number in order:
        # Behind here no tie asks a place below the least end of this one.
        settled = (1 << least) - 1
        ready = [asked for asked in layers[-1] if (asked ^ wanted) & settled == 0]
        layers.append(_asked_further(ready, web[1][number], offers, wanted))
    if wanted not in layers[-1]:
        return None
    return _lots_of(web, order, layers, wanted)


def _asked_further(ready, tie, offers, wanted):
    """A dict of what can be asked once one more tie has a lot: each time with this lot."""
    tail, head, kind = tie
    further = {}
    for lot in offers[kind]:
        more = asked_by(lot, tail, head)
        for asked in ready:
            if more & asked == 0 and more & wanted == more:
                further[asked + more] = lot
    return further


def _lots_of(web, order, layers, wanted):
    chosen = [()] * len(order)
    asked = wanted
    for at in reversed(range(len(order))):
        number = order[at][1]
        chosen[number] = layers[at + 1][asked]
        asked = asked - asked_by(chosen[number], web[1][number][0], web[1][number][1])
    return tuple(chosen)
