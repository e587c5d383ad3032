"""Integers: what counts as one, and the checks of numbers that are passed in."""

from latepatches.errors import InvalidNumberError

# Settings and options have integers from the negative of this one up to it.
FARTHEST = 10 ** 30


def is_integer(value):
    """Tell whether any value is an integer."""
    # A bool is an int for Python, but not here.
    return isinstance(value, int) and not isinstance(value, bool)


def is_integer_within(value, least, greatest):
    """Tell whether any value is an integer from least to greatest."""
    return is_integer(value) and least <= value <= greatest


def are_integers(value, least, greatest, most):
    """Tell whether any value is a list of at most so many integers from least to greatest."""
    # Exactly a list is asked for, so that no tuple and no list with a behavior of its own gets through.
    if type(value) != list or len(value) > most:
        return False
    return all([is_integer_within(item, least, greatest) for item in value])


def check_number(value, least, greatest):
    """Raise an error unless any value is an integer from least to greatest."""
    if not is_integer_within(value, least, greatest):
        raise InvalidNumberError("this is not an integer within the limits")


def check_index(index, count):
    """Raise an error unless any value is an index of one of so many things."""
    check_number(index, 0, count - 1)


def check_settable(value):
    """Raise an error unless any value is an integer that settings and options can have."""
    check_number(value, -FARTHEST, FARTHEST)
