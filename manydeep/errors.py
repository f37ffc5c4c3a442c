"""The errors of Manydeep: each parameter is kept, as it is, as an attribute."""


class GardenError(Exception):
    """The base class of all errors of this package."""


class BadWeb(GardenError):
    """A value is no web."""

    def __init__(self, thing):
        self.thing = thing


class BadGrowth(GardenError):
    """A value is no growth."""

    def __init__(self, thing):
        self.thing = thing


class BadBook(GardenError):
    """A value is no book."""

    def __init__(self, thing):
        self.thing = thing


class BadGarden(GardenError):
    """A value is no garden."""

    def __init__(self, thing):
        self.thing = thing


class BadRenaming(GardenError):
    """A value is no renaming of the web."""

    def __init__(self, thing):
        self.thing = thing


class BadText(GardenError):
    """A value is no text of the kind that is read; at is the number of the line, 0 for no string."""

    def __init__(self, at):
        self.at = at


class TooMany(GardenError):
    """A web would have more places or ties than the most that is allowed."""

    def __init__(self, most):
        self.most = most


class BadNumber(GardenError):
    """A value is no number of the kind that is asked for."""

    def __init__(self, thing):
        self.thing = thing


class BadModulus(GardenError):
    """A value is no integer from 2 on."""

    def __init__(self, thing):
        self.thing = thing


class BadRow(GardenError):
    """A value is no row."""

    def __init__(self, thing):
        self.thing = thing


class BadAddress(GardenError):
    """A value is no address of a place."""

    def __init__(self, thing):
        self.thing = thing


class BadPlace(GardenError):
    """A value is no place of the web."""

    def __init__(self, thing):
        self.thing = thing


class BadWish(GardenError):
    """A value is no wish of the kind that is asked for."""

    def __init__(self, thing):
        self.thing = thing


class BadMarks(GardenError):
    """A value is no row of marks."""

    def __init__(self, thing):
        self.thing = thing


class BadPlan(GardenError):
    """A value is no plan."""

    def __init__(self, thing):
        self.thing = thing


class BadCount(GardenError):
    """A value is no count."""

    def __init__(self, thing):
        self.thing = thing


class BadKind(GardenError):
    """A value is no kind of the book."""

    def __init__(self, thing):
        self.thing = thing


class BadTies(GardenError):
    """A growth has a tie of another kind than 0."""

    def __init__(self, thing):
        self.thing = thing


class BadTie(GardenError):
    """A value is no tie of the web."""

    def __init__(self, thing):
        self.thing = thing


class BadShelf(GardenError):
    """A value is no shelf."""

    def __init__(self, thing):
        self.thing = thing


class BadFacts(GardenError):
    """A value is no facts."""

    def __init__(self, thing):
        self.thing = thing


class NoneLeft(GardenError):
    """No garden is left by the facts."""

    def __init__(self):
        pass


class BadChange(GardenError):
    """A change is wrong; at is its position in the deal."""

    def __init__(self, at):
        self.at = at


class Unkept(GardenError):
    """A promised wish does not hold after n rounds."""

    def __init__(self, wish, n):
        self.wish = wish
        self.n = n


class Full(GardenError):
    """The book has as many kinds as a book can have."""

    def __init__(self):
        pass


class LastKind(GardenError):
    """The book has one kind alone."""

    def __init__(self):
        pass


class InUse(GardenError):
    """A tie that stays has the kind c."""

    def __init__(self, c):
        self.c = c


class NothingToUndo(GardenError):
    """No deed can be taken back."""

    def __init__(self):
        pass


class NothingToRedo(GardenError):
    """No deed that was taken back can be done again."""

    def __init__(self):
        pass
