"""What comes of a web if its ties give way to pieces with marks: whether and how its places hang together."""

from manydeep.parts import are_joined, parts_of, sides_of

STEPS = {"odd": 1, "even": 0}


def joined_mark(growth, row):
    """The mark for ("joined",) of a growth whose ties give way to pieces with the marks of a row."""
    parts = _parts_by_one(growth, row)
    if _has_mark(growth, row, "loose"):
        return "loose"
    if max(parts) == 0:
        return "one"
    return "loose" if [part for part in parts if part not in (parts[0], parts[1])] else "two"


def holds_joined(web, row):
    """Whether ("joined",) holds for a web whose ties give way to pieces with the marks of a row."""
    return not _has_mark(web, row, "loose") and max(_parts_by_one(web, row)) == 0


def _parts_by_one(web, row):
    return parts_of(web[0], [(tail, head) for tail, head, kind in web[1] if row[kind] == "one"])


def _has_mark(web, row, mark):
    return mark in [row[tie[2]] for tie in web[1]]


def sided_mark(growth, row):
    """The mark for ("sided",) of such a growth."""
    sides = sides_by(growth, row)
    if sides is None:
        return "broken"
    (tail_part, tail_side), (head_part, head_side) = sides[:2]
    if tail_part != head_part:
        return "free"
    return "even" if tail_side == head_side else "odd"


def sides_by(web, row):
    """For each place a pair: a part, and a side; None if such a web has no two sides."""
    if _has_mark(web, row, "broken"):
        return None
    return sides_of(web[0], [(tail, head, STEPS[row[kind]]) for tail, head, kind in web[1] if row[kind] != "free"])


def ringed_mark(growth, row):
    """The mark for ("ringed",) of such a growth."""
    parts = parts_of(growth[0], _pairs_but(growth, row, None))
    ends_joined = parts[0] == parts[1]
    if holds_ringed(growth, row, ()):
        return (ends_joined, "always")
    # If the ends are not joined, one more tie from 0 to 1 helps no tie into a ring: it lies in none itself.
    return (ends_joined, "tied" if holds_ringed(growth, row, ((0, 1),)) else "never")


def holds_ringed(web, row, more):
    """Whether each tie of such a web lies in a ring; the pairs in more are joined from outside."""
    if [tie for tie in web[1] if row[tie[2]][1] == "never"]:
        return False
    for number, (tail, head, kind) in enumerate(web[1]):
        if row[kind][1] == "tied":
            parts = parts_of(web[0], _pairs_but(web, row, number) + list(more))
            if parts[tail] != parts[head]:
                return False
    return True


def _pairs_but(web, row, left_out):
    """The pairs of ends of all ties but one whose pieces join their ends."""
    kept = [tie for number, tie in enumerate(web[1]) if number != left_out and row[tie[2]][0]]
    return [(tail, head) for tail, head, kind in kept]


def whole_mark(growth, row):
    """The mark for ("whole",) of such a growth."""
    joints = _joints(growth, row)
    marks = [mark for pair, mark in joints]
    if growth[0] == 2 and not [mark for mark in marks if mark not in ("no", "bare")]:
        return "bare" if "bare" in marks else "no"
    if _is_whole(growth[0], joints):
        return "self"
    return "tied" if _is_whole(growth[0], joints + [((0, 1), "bare")]) else "bad"


def holds_whole(web, row):
    """Whether ("whole",) holds for such a web."""
    return _is_whole(web[0], _joints(web, row))


def _joints(web, row):
    return [((tail, head), row[kind]) for tail, head, kind in web[1]]


def _is_whole(places, joints):
    pairs = [pair for pair, mark in joints if mark != "no"]
    if places < 2 or "bad" in [mark for pair, mark in joints] or not are_joined(places, pairs):
        return False
    for place in range(places):
        kept = [pair for pair in pairs if place not in pair]
        others = [other for other in range(places) if other != place]
        parts = parts_of(places, kept)
        if [other for other in others if parts[other] != parts[others[0]]]:
            return False
    # Some inner place parts the ends of a tied piece: so they have to be joined without this piece.
    for number, (_, mark) in enumerate(joints):
        if mark == "tied":
            kept = [pair for other, (pair, kind) in enumerate(joints) if other != number and kind != "no"]
            if not are_joined(places, kept):
                return False
    return True
