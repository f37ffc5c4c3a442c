"""Sketches of the web after n rounds: ties are opened only where they lead to some addresses.

Every other tie stands for the whole piece that comes of it.
"""


def sketch(garden, addresses):
    """The dict from the addresses of the places of a sketch to their numbers, and the list of its ties.

    A tie is a tuple: its row, the addresses of its tail and its head, and its kind.
    """
    start, book = garden
    opened = {row[:length]: True for row, place in addresses for length in range(1, len(row) + 1)}
    numbers = {((), place): place for place in range(start[0])}
    waiting = _ties_in(start, (), [((), place) for place in range(start[0])])
    kept = []
    while waiting:
        row, tail, head, kind = waiting.pop()
        if row in opened:
            inner = [(row, place) for place in range(2, book[kind][0])]
            for address in inner:
                numbers[address] = len(numbers)
            waiting.extend(_ties_in(book[kind], row, [tail, head] + inner))
        else:
            kept.append((row, tail, head, kind))
    return numbers, kept


def _ties_in(web, row, names):
    """The ties of the start, or of the growth that is put in the place of the tie with a row."""
    return [(row + (number,), names[tail], names[head], kind) for number, (tail, head, kind) in enumerate(web[1])]


def sketch_joints(numbers, ties, worths):
    """The joints of a sketch of the web after as many rounds as the last of some worths of all kinds is for.

    The number of a joint is the worth of its tie's kind after the rounds that are left; None leaves it out.
    """
    joints = []
    for row, tail, head, kind in ties:
        worth = worths[len(worths) - len(row)][kind]
        if worth is not None:
            joints.append((numbers[tail], numbers[head], worth))
    return joints
