"""Values that are nearly right: with a part left out, doubled, exchanged, or of another sort."""
import random

OTHER_WORDS = {
    "divided": "rest", "rest": "divided", "dies": "degree", "degree": "dies", "doubling": "degree", "near": "over", "over": "near",
    "stream": "cut", "cut": "stream", "same": "apart", "apart": "same", "powers": "apart", "lots": "lot", "start": "growth",
}


def mutants(thing):
    """All values that differ from a thing at one spot."""
    if isinstance(thing, bool):
        yield from (not thing, int(thing), None, str(thing), (thing,))
    elif isinstance(thing, int):
        yield from (thing + 1, thing - 1, -thing, None, str(thing), (thing,), [thing], {thing: thing}, thing + 10 ** 40, -10 ** 45)
        if thing in (0, 1):
            yield bool(thing)
    elif isinstance(thing, str):
        yield from (OTHER_WORDS.get(thing, "other"), thing.title(), thing + " ", "", None, (thing,), 0)
    elif thing is None:
        yield from (False, 0, (), (0,), (None,), "")
    elif isinstance(thing, tuple):
        yield from (list(thing), thing + (thing,), (thing,), None, dict(enumerate(thing)), thing + (None,), thing + (0,), (0,) + thing)
        for at in range(len(thing)):
            yield thing[:at] + thing[at + 1:]
            yield thing[:at] + thing[at:at + 1] + thing[at:]
            for other in range(at):
                if thing[at] != thing[other]:
                    yield thing[:other] + (thing[at],) + thing[other + 1:at] + (thing[other],) + thing[at + 1:]
            for mutant in mutants(thing[at]):
                yield thing[:at] + (mutant,) + thing[at + 1:]


def some_mutants(thing, dice, many):
    """So many of the mutants of a thing, thrown with dice, and some that differ at more than one spot."""
    found = list(mutants(thing))
    chosen = dice.sample(found, min(many, len(found)))
    for first in dice.sample(chosen, min(len(chosen), many // 5)):
        further = list(mutants(first))
        if further:
            chosen.append(dice.choice(further))
    return chosen


def is_exactly(one, other):
    """Whether two values are equal and of the same sorts throughout: True is not 1, and a list is no tuple."""
    if type(one) is not type(other):
        return False
    if isinstance(one, (tuple, list)):
        return len(one) == len(other) and all(is_exactly(mine, others) for mine, others in zip(one, other))
    return one == other


def thrown_dice(seed):
    return random.Random(seed)
