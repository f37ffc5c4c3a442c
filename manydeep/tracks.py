"""Tracks: the ties of the web after each number of rounds, each with its row."""

from manydeep.rounds import put_in


def tracks_after(garden, n):
    """For 0 to n rounds in turn, the list of pairs (tie, row) of all ties in the order of their numbers."""
    (places, ties), book = garden
    tracks = [(tie, (number,)) for number, tie in enumerate(ties)]
    told = [tracks]
    for _ in range(n):
        places, made = put_in((places, [tie for tie, row in tracks]), book)
        rows = [row for tie, row in tracks]
        # Of equal ties the one with the lesser row comes first, which settles whose inner places are whose.
        tracks = sorted([(tie, rows[number] + (child,)) for tie, number, child in made])
        told.append(tracks)
    return told
