"""The texts of webs and gardens, written and read."""

from manydeep.errors import BadGarden, BadText, BadWeb
from manydeep.webs import MOST_KINDS, is_garden, is_tie, is_web


def web_text(web):
    """The text of a web."""
    if not is_web(web):
        raise BadWeb(web)
    return "\n".join(_web_lines(web))


def garden_text(garden):
    """The text of a garden."""
    if not is_garden(garden):
        raise BadGarden(garden)
    start, book = garden
    lines = _web_lines(start)
    for growth in book:
        lines = lines + ["growth"] + _web_lines(growth)
    return "\n".join(lines)


def _web_lines(web):
    places, ties = web
    return [f"places {places}"] + [f"{tail} {head} {kind}" for tail, head, kind in ties]


def read_web(text):
    """The web with a text."""
    lines = lines_of(text)
    web, end = _web_at(lines, 0, 1)
    if end < len(lines):
        raise BadText(end + 1)
    return web


def read_garden(text):
    """The garden with a text."""
    lines = lines_of(text)
    garden, end = garden_ahead(lines)
    if end < len(lines):
        raise BadText(end + 1)
    return garden


def lines_of(text):
    """The lines of any value that is a string."""
    if not isinstance(text, str):
        raise BadText(0)
    return text.split("\n")


def garden_ahead(lines):
    """The garden with which lines begin, of as many lines as it can take, and the position behind them."""
    start, at = _web_at(lines, 0, 1)
    book = ()
    while at < len(lines) and lines[at] == "growth" and len(book) < MOST_KINDS:
        growth, at = _web_at(lines, at + 1, 2)
        book = (*book, growth)
    # All webs are right here: a book with too few growths for its kinds is all that can be wrong.
    if not is_garden((start, book)):
        raise BadText(at + 1)
    return (start, book), at


def _web_at(lines, at, least):
    """The web of least places or more whose text begins at a position, and the position behind its last tie."""
    places = _places_told(lines[at]) if at < len(lines) else None
    if places is None or places < least:
        raise BadText(at + 1)
    ties = []
    for line in lines[at + 1:]:
        tie = _tie_told(line, places)
        if tie is None or (ties and tie < ties[-1]):
            break
        ties.append(tie)
    return (places, tuple(ties)), at + 1 + len(ties)


def _places_told(line):
    words = line.split(" ")
    if len(words) != 2 or words[0] != "places":
        return None
    return number_told(words[1])


def _tie_told(line, places):
    """The tie of a web of so many places that a line tells, None if it tells none."""
    tie = tuple([number_told(word) for word in line.split(" ")])
    return tie if is_tie(places, tie) else None


def number_told(word):
    """The integer from 0 on that Python writes as a word, None if there is none."""
    if not word.isascii() or not word.isdigit():
        return None
    # Python writes no integer but 0 with a 0 ahead.
    if word[0] == "0" and word != "0":
        return None
    return int(word)
