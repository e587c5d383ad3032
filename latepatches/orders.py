"""Orders in which the patches that run at the end of a history can be stopped."""

from math import factorial

from latepatches.errors import InvalidOrderError
from latepatches.histories import LAST_PATCH, running_after
from latepatches.integers import are_integers, check_index
from latepatches.values import fate_of, present_after


def is_order(history, value):
    """Tell whether any value is an order of a history."""
    running = running_after(history)
    return are_integers(value, 1, LAST_PATCH, LAST_PATCH) and sorted(value) == running


def check_order(history, order):
    """Raise an error unless any value is an order of a history."""
    if not is_order(history, order):
        raise InvalidOrderError("this is not an order of the patches that run")


def count_orders(history):
    """Return the number of the orders of a history."""
    return factorial(len(running_after(history)))


def left_by(history, order):
    """Return the value that is present behind the stops of an order."""
    check_order(history, order)
    return present_after(history + [-patch for patch in order])


def count_leaving(history, value):
    """Return the number of the orders that leave a value."""
    fate, running = fate_of(history, value), running_after(history)
    if fate[0] == "saved":
        # The patch that saved the value must be stopped last, the others in any order.
        return factorial(len(running) - 1)
    # Each stop would lose the value that is present.
    return 1 if fate[0] == "present" and running == [] else 0


def nth_leaving(history, value, index):
    """Return the order that has an index in list order among those that leave a value."""
    check_index(index, count_leaving(history, value))
    fate, running = fate_of(history, value), running_after(history)
    if fate[0] == "present":
        return []
    saver = fate[1]
    return _nth_permutation([patch for patch in running if patch != saver], index) + [saver]


def leaving_rank(history, order):
    """Return the index of an order among those that leave the same value."""
    check_order(history, order)
    # All of them have the same patch at the end, the one that saved the value.
    return _permutation_rank(order[:-1])


def _nth_permutation(patches, index):
    """Return the permutation of an ascending list that has an index in list order."""
    rest, permutation = list(patches), []
    while rest != []:
        place, index = divmod(index, factorial(len(rest) - 1))
        permutation.append(rest.pop(place))
    return permutation


def _permutation_rank(permutation):
    """Return the index of a permutation in list order."""
    rest, rank = sorted(permutation), 0
    for patch in permutation:
        rank = rank * len(rest) + rest.index(patch)
        rest.remove(patch)
    return rank
