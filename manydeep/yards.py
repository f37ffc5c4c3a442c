"""Yards: gardens under changes, with promises that hold after each number of rounds."""

from manydeep.calendars import calendar_of, judge_always
from manydeep.changes import changed
from manydeep.cycles import first_with
from manydeep.errors import BadChange, BadText, GardenError, NothingToRedo, NothingToUndo, Unkept
from manydeep.needs import need_garden
from manydeep.texts import garden_ahead, garden_text, lines_of
from manydeep.wishtexts import wish_told, wish_words

PROMISE = "promise "


class Yard:
    """A garden with promises, and the deeds that can be undone and redone."""

    def __init__(self, garden):
        need_garden(garden)
        self._state = (garden, ())
        self._behind = []
        self._ahead = []

    def garden(self):
        """The garden."""
        return self._state[0]

    def promises(self):
        """The tuple of the promises, in the order in which they were made."""
        return self._state[1]

    def deeds(self):
        """How many deeds can be undone."""
        return len(self._behind)

    def judged(self, wish):
        """A certificate of whether a wish holds for the garden after n rounds for all n."""
        return judge_always(self._state[0], wish)

    def change(self, change):
        """Do one change, as a deed."""
        garden, promises = self._state
        self._do(_kept(self._state, changed(garden, promises, change)))

    def deal(self, changes):
        """Do a deal, as one deed."""
        self._do(_dealt(self._state, changes))

    def would(self, changes):
        """Whether a deal would be done; nothing is done."""
        try:
            _dealt(self._state, changes)
        except GardenError:
            return False
        return True

    def _do(self, state):
        self._behind.append(self._state)
        self._state = state
        self._ahead = []

    def undo(self):
        """Take the last deed back."""
        if not self._behind:
            raise NothingToUndo()
        self._ahead.append(self._state)
        self._state = self._behind.pop()

    def redo(self):
        """Do the last deed that was taken back again."""
        if not self._ahead:
            raise NothingToRedo()
        self._behind.append(self._state)
        self._state = self._ahead.pop()

    def copied(self):
        """An equal yard with the same deeds to undo and to redo."""
        yard = Yard(self._state[0])
        yard._state = self._state
        yard._behind = list(self._behind)
        yard._ahead = list(self._ahead)
        return yard

    def __eq__(self, other):
        return isinstance(other, Yard) and str(self) == str(other)

    def __str__(self):
        return "\n".join(_lines_of_yard(self._state))


def _lines_of_yard(state):
    garden, promises = state
    return [garden_text(garden)] + [PROMISE + wish_words(wish) for wish in promises]


def _dealt(state, changes):
    """The state behind a deal."""
    if not isinstance(changes, tuple):
        raise BadChange(-1)
    garden, promises = state
    for at, change in enumerate(changes):
        try:
            garden, promises = changed(garden, promises, change)
        except GardenError:
            raise BadChange(at) from None
    return _kept(state, (garden, promises))


def _kept(before, state):
    """The state, if all its promises hold after each number of rounds."""
    garden, promises = state
    # What held for this garden holds still.
    known = before[1] if garden == before[0] else ()
    for wish in promises:
        if wish not in known:
            n = _first_failure(garden, wish)
            if n is not None:
                raise Unkept(wish, n)
    return state


def _first_failure(garden, wish):
    """The least number of rounds after which a wish does not hold, None if there is none."""
    return first_with(calendar_of(garden, wish), (False,))


def read_yard(text):
    """The yard with a text, without deeds."""
    lines = lines_of(text)
    garden, end = garden_ahead(lines)
    promises = ()
    for at in range(end, len(lines)):
        wish = _promise_told(lines[at])
        if wish is None or wish in promises or _first_failure(garden, wish) is not None:
            raise BadText(at + 1)
        promises = promises + (wish,)
    yard = Yard(garden)
    yard._state = (garden, promises)
    return yard


def _promise_told(line):
    return wish_told(line[len(PROMISE):]) if line.startswith(PROMISE) else None
