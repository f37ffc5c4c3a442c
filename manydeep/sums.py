"""Sums over what each of several things gives."""


def handed_on(counts, gifts):
    """How many of each sort come of counted things, of which one each gives a row of gifts."""
    return [sum([count * gift[at] for count, gift in zip(counts, gifts)]) for at in range(len(counts))]
