"""In how many ways, by m, the places of a web can be given hues if its ties give way to pieces with number marks."""


def add_tally(tallies, key, more, m):
    """Add to one of some tallies, which are remainders by m; what adds nothing makes no new one."""
    if more % m > 0:
        tallies[key] = (tallies.get(key, 0) + more) % m


def hues_tallied(web, row, k, m, fixed):
    """In how many ways, by m, the places can be given k hues, the first ones having the fixed ones.

    A row has, for each kind, the numbers of ways for ends of one hue and for ends of two certain unlike ones.
    """
    if len(set(fixed)) > k:
        return 0
    near = [[] for _ in range(web[0])]
    for tail, head, kind in web[1]:
        near[tail].append((head, row[kind]))
        near[head].append((tail, row[kind]))
    begun = fixed + (-1,) * (web[0] - len(fixed))
    tallies = {begun: _worth_of_hue(near[1], begun, begun[1]) if fixed else 1}
    unmet = list(range(len(fixed), web[0]))
    while unmet:
        place = _next_place(near, unmet)
        unmet = [other for other in unmet if other != place]
        kept = [_is_open(near, unmet, at) for at in range(web[0])]
        tallies = _tallied_further(tallies, near[place], place, kept, k, m)
    return sum(list(tallies.values())) % m


def _is_open(near, unmet, place):
    """Whether a place that has a hue has a tie to one that has none yet."""
    return place not in unmet and bool([other for other, numbers in near[place] if other in unmet])


def _next_place(near, unmet):
    """The next place to get a hue: one with many ties to those that have hues, so that few hues have to be kept."""
    scores = []
    for place in unmet:
        scores.append((sum([1 if other in unmet else -1 for other, numbers in near[place]]), place))
    return min(scores)[1]


def _tallied_further(tallies, near, place, kept, k, m):
    """The tallies once one more place has a hue; only the hues of the places that are kept are told apart from then on.

    Hues are -1 for places that have none or are not kept, and otherwise counted in the order in which they come.
    """
    further = {}
    for hues in tallies:
        used = max(hues) + 1
        for hue in range(min(used + 1, k)):
            # All hues that are not in use go the same way.
            choices = 1 if hue < used else k - used
            worth = _worth_of_hue(near, hues, hue)
            if worth > 0:
                told = _counted_anew(hues[:place] + (hue,) + hues[place + 1:], kept)
                add_tally(further, told, tallies[hues] * choices * worth, m)
    return further


def _worth_of_hue(near, hues, hue):
    """The product of the numbers of ways of the ties that lead to the places that have hues."""
    worth = 1
    for other, (same, unlike) in near:
        if hues[other] >= 0:
            worth = worth * (same if hues[other] == hue else unlike)
    return worth


def _counted_anew(hues, kept):
    numbers = {}
    told = []
    for hue, is_kept in zip(hues, kept):
        told.append(numbers.setdefault(hue, len(numbers)) if is_kept else -1)
    return tuple(told)
