"""Shapes of histories: strings with + for each start and - for each stop."""

from latepatches.errors import InvalidHistoryError, InvalidShapeError
from latepatches.histories import LAST_PATCH, check_history, is_plain
from latepatches.integers import check_index, check_number


def is_shape(value):
    """Tell whether any value is a shape."""
    if not isinstance(value, str):
        return False
    running = 0
    for sign in value:
        if sign == "+":
            running += 1
        elif sign == "-" and running > 0:
            running -= 1
        else:
            return False
    return value.count("+") <= LAST_PATCH


def _check_shape(shape):
    """Raise an error unless any value is a shape."""
    if not is_shape(shape):
        raise InvalidShapeError("this is not a shape")


def shape_of(history):
    """Return the shape of a history."""
    check_history(history)
    return "".join(["+" if event > 0 else "-" for event in history])


def count_in_shape(shape):
    """Return the number of the plain histories with a shape."""
    _check_shape(shape)
    count, running = 1, 0
    for sign in shape:
        if sign == "+":
            running += 1
        else:
            count *= running
            running -= 1
    return count


def count_survivors(shape, survivor):
    """Return how many of the plain histories with a shape leave a value at the end."""
    _check_shape(shape)
    check_number(survivor, 0, shape.count("+"))
    count, started, running = 1, 0, 0
    # Of the histories so far, those in which the value is present, and those in which a running patch saved it.
    present, saved = (1, 0) if survivor == 0 else (0, 0)
    for sign in shape:
        if sign == "+":
            started += 1
            running += 1
            saved += present
            present = count if started == survivor else 0
        else:
            # One of the running patches puts the value back, the others leave it saved.
            present, saved = saved, saved * (running - 1)
            count *= running
            running -= 1
    return present


def nth_in_shape(shape, index):
    """Return the plain history with a shape that has an index in list order."""
    count = count_in_shape(shape)
    check_index(index, count)
    history, running, started = [], [], 0
    for sign in shape:
        if sign == "+":
            started += 1
            running.append(started)
            history.append(started)
        else:
            # As many histories go on behind each stop that can stand here, the one of the last patch first.
            count //= len(running)
            place, index = divmod(index, count)
            history.append(-running.pop(-1 - place))
    return history


def shape_rank(history):
    """Return the index of a plain history among those with its shape."""
    if not is_plain(history):
        raise InvalidHistoryError("this history is not plain")
    rank, running = 0, []
    for event in history:
        if event > 0:
            running.append(event)
        else:
            place = len(running) - 1 - running.index(-event)
            # The places are the digits of the rank, each to the base of the patches that run there.
            rank = rank * len(running) + place
            running.remove(-event)
    return rank
