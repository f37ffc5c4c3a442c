"""What the checks of all modules need to tell of any value."""


def is_integer(thing):
    """Whether any value is an integer; True and False are none."""
    return isinstance(thing, int) and not isinstance(thing, bool)


def is_integer_below(thing, end):
    """Whether any value is an integer from 0 on that is below end."""
    return is_integer(thing) and 0 <= thing < end


def is_tuple_of(thing, length):
    """Whether any value is a tuple of just so many items."""
    return isinstance(thing, tuple) and len(thing) == length
