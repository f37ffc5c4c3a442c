"""What the checks of all modules need to tell of any value."""


def is_integer(thing):
    """Whether any value is an integer; True and False are none."""
    return isinstance(thing, int) and not isinstance(thing, bool)


def is_integer_below(thing, end):
    """Whether any value is an integer from 0 on that is below end."""
    return is_integer(thing) and 0 <= thing < end


def is_tuple_of(thing, length):
    """Whether any value is a tuple of just so many items."""
    return isinstance(thing, tuple) and len(thing) == length


def is_integer_within(thing, least, most):
    """Whether any value is an integer from least to most."""
    return is_integer(thing) and least <= thing <= most


def is_just(thing, known):
    """Whether any value is equal to a known one of integers, strings, bools and tuples; a bool is no integer."""
    if isinstance(known, tuple):
        return is_tuple_of(thing, len(known)) and all([is_just(part, other) for part, other in zip(thing, known)])
    if isinstance(thing, bool) != isinstance(known, bool) or isinstance(thing, int) != isinstance(known, int):
        return False
    return thing == known
