"""The search for a renaming that leads one web to another one.

Colors are integers, one for each place, that say by what the places can be told from one another. As long as places
of one color are left that are more than one, one of them is singled out in both webs and the colors are made anew.
"""


def matching(one, other, fixed):
    """A renaming that leads web one to the other and leaves the first so many places, None if there is none."""
    if one[0] != other[0] or len(one[1]) != len(other[1]):
        return None
    colors = [min(place, fixed) for place in range(one[0])]
    return _search(one, other, colors, colors)


def _search(one, other, mine, theirs):
    mine, theirs = _refined(one, other, mine, theirs)
    if sorted(mine) != sorted(theirs):
        return None
    shared = [place for place in range(len(mine)) if mine.count(mine[place]) > 1]
    if not shared:
        return tuple([theirs.index(color) for color in mine])
    for place in range(len(theirs)):
        if theirs[place] == mine[shared[0]]:
            found = _search(one, other, _singled_out(mine, shared[0]), _singled_out(theirs, place))
            if found is not None:
                return found
    return None


def _singled_out(colors, place):
    # Colors that are made are from 0 on, so no other place has this one.
    return colors[:place] + [-1] + colors[place + 1:]


def _refined(one, other, mine, theirs):
    """The colors of both webs, made finer by the ties until these tell no more places apart."""
    many = 0
    while many < len(set(mine + theirs)):
        many = len(set(mine + theirs))
        rows = _neighbors(one, mine) + _neighbors(other, theirs)
        # One numbering for both webs: so like places get like colors.
        numbers = {row: number for number, row in enumerate(sorted(set(rows)))}
        colors = [numbers[row] for row in rows]
        mine, theirs = colors[:len(mine)], colors[len(mine):]
    return mine, theirs


def _neighbors(web, colors):
    """For each place its color and, of each of its ties, the direction, the kind and the color of the other end."""
    ties_at = [[] for _ in colors]
    for tail, head, kind in web[1]:
        ties_at[tail].append((0, kind, colors[head]))
        ties_at[head].append((1, kind, colors[tail]))
    return [(color, tuple(sorted(ties))) for color, ties in zip(colors, ties_at)]
