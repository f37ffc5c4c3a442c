"""How fast the number of ties grows: whether it dies out, grows like a power of n, or doubles again and again."""

from itertools import permutations

from manydeep.checks import is_integer_below, is_just, is_tuple_of
from manydeep.errors import BadKind
from manydeep.needs import need_book, need_garden


def kinds_of(garden):
    """The ascending tuple of the kinds of the ties of a garden after any number of rounds."""
    need_garden(garden)
    start, book = garden
    mine = [tie[2] for tie in start[1]]
    reach = _reach_of(book)
    return tuple([kind for kind in range(len(book)) if kind in mine or [one for one in mine if kind in reach[one]]])


def leads(book, c, d):
    """Whether the ties of one kind lead to those of another one, or of the same one, after one round or more."""
    need_book(book)
    for kind in (c, d):
        if not is_integer_below(kind, len(book)):
            raise BadKind(kind)
    return d in _reach_of(book)[c]


def _reach_of(book):
    """For each kind the list of the kinds to which it leads."""
    return [_reached_from(book, kind) for kind in range(len(book))]


def _reached_from(book, kind):
    found = []
    waiting = [kind]
    while waiting:
        ties = book[waiting.pop()][1]
        for tie in ties:
            if tie[2] not in found:
                found.append(tie[2])
                waiting.append(tie[2])
    return found


def judge_speed(garden):
    """A certificate of how fast the number of ties grows."""
    kinds = kinds_of(garden)
    book = garden[1]
    for c in kinds:
        both = _two_descents(book, c)
        if both is not None:
            return ("doubling", c, both[0], both[1])
    longest = _longest_chains(book, kinds)[0]
    if longest:
        return ("degree", len(longest) - 1, longest)
    return ("dies", _last_round(garden))


def speed_holds(garden, thing):
    """Whether any value is a right certificate of how fast the number of ties grows."""
    kinds = kinds_of(garden)
    book = garden[1]
    if is_tuple_of(thing, 4) and is_just(thing[0], "doubling"):
        return _is_doubling(book, kinds, thing)
    # Two descents of one length keep on doubling: then there is no other certificate.
    if [c for c in kinds if _two_descents(book, c) is not None]:
        return False
    chains = _longest_chains(book, kinds)
    if chains == [()]:
        return is_just(thing, ("dies", _last_round(garden)))
    return any([is_just(thing, ("degree", len(chain) - 1, chain)) for chain in chains])


def _is_doubling(book, kinds, thing):
    c, one, other = thing[1:]
    if not is_integer_below(c, len(book)) or c not in kinds:
        return False
    return _is_descent(book, c, one) and _is_descent(book, c, other) and len(one) == len(other) and one != other


def _is_descent(book, c, thing):
    """Whether any value is a descent from a kind to itself."""
    if not isinstance(thing, tuple) or not thing:
        return False
    kind = c
    for number in thing:
        ties = book[kind][1]
        if not is_integer_below(number, len(ties)):
            return False
        kind = ties[number][2]
    return kind == c


def _two_descents(book, c):
    """Two unlike descents of one length from a kind to itself, None if there are none.

    If there are some in a garden, then also for a kind two ties of whose growth lead back to it.
    """
    ways_back = []
    for number, tie in enumerate(book[c][1]):
        back = _least_descent(book, tie[2], c)
        if back is not None:
            ways_back.append((number,) + back)
    if len(ways_back) < 2:
        return None
    one, other = ways_back[:2]
    return one + other, other + one


def _least_descent(book, begin, end):
    """A descent of the fewest ties from a kind to another one, () if both are one; None if there is none."""
    descents = {begin: ()}
    waiting = [begin]
    at = 0
    while at < len(waiting):
        kind = waiting[at]
        at += 1
        for number, tie in enumerate(book[kind][1]):
            if tie[2] not in descents:
                descents[tie[2]] = descents[kind] + (number,)
                waiting.append(tie[2])
    return descents.get(end, None)


def _longest_chains(book, kinds):
    """All longest tuples of lasting kinds each of which leads to the next one, and none to one ahead of it."""
    reach = _reach_of(book)
    lasting = [kind for kind in kinds if kind in reach[kind]]
    chains = [()]
    for many in range(1, len(lasting) + 1):
        longer = [chain for chain in permutations(lasting, many) if _is_chain(reach, chain)]
        # Without its last kind a chain is one, too: if none is so long, no longer one is there.
        chains = longer if longer else chains
    return chains


def _is_chain(reach, chain):
    for at in range(1, len(chain)):
        if chain[at] not in reach[chain[at - 1]]:
            return False
        if [kind for kind in chain[:at] if kind in reach[chain[at]]]:
            return False
    return True


def _last_round(garden):
    """The least number of rounds after which a garden that dies out has no tie."""
    start, book = garden
    kinds = [tie[2] for tie in start[1]]
    n = 0
    while kinds:
        found = []
        for kind in sorted(set(kinds)):
            found.extend([tie[2] for tie in book[kind][1]])
        kinds = found
        n += 1
    return n
