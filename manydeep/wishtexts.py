"""The words of wishes, written and read."""

from manydeep.texts import number_told
from manydeep.wishes import is_wish

# How many items follow the word with which a wish begins.
ITEMS_BEHIND = {
    "joined": 0, "sided": 0, "hues": 1, "paired": 0, "round": 0, "ringed": 0, "whole": 0, "even": 0, "number": 3,
    "far": 3, "apart": 3, "not": 1, "and": 2, "or": 2,
}


def wish_words(wish):
    """The words of a wish, separated by one blank."""
    words = []
    waiting = [wish]
    while waiting:
        part = waiting.pop()
        if isinstance(part, tuple):
            waiting.extend(part[::-1])
        else:
            words.append(f"{part}")
    return " ".join(words)


def wish_told(text):
    """The wish with these words, None if there is none."""
    parts = []
    # From the last word on: so the items of a wish are there as soon as its first word is met.
    for word in text.split(" ")[::-1]:
        number = number_told(word)
        if number is not None:
            parts.append(number)
        elif word not in ITEMS_BEHIND or len(parts) < ITEMS_BEHIND[word]:
            return None
        else:
            begin = len(parts) - ITEMS_BEHIND[word]
            parts = parts[:begin] + [(word,) + tuple(parts[begin:][::-1])]
    return parts[0] if len(parts) == 1 and is_wish(parts[0]) else None
