"""Histories: lists of events that start and stop patches.

A start of patch k is written k, a stop of it -k.
"""

from latepatches.errors import InvalidHistoryError, InvalidPatchError
from latepatches.integers import are_integers, is_integer

LAST_PATCH = 100
MOST_EVENTS = 200


def are_events(value):
    """Tell whether any value is a list of different events."""
    if not are_integers(value, -LAST_PATCH, LAST_PATCH, MOST_EVENTS):
        return False
    return 0 not in value and len(set(value)) == len(value)


def is_history(value):
    """Tell whether any value is a history."""
    if not are_events(value):
        return False
    started = set()
    for event in value:
        if event > 0:
            started.add(event)
        elif -event not in started:
            return False
    return True


def check_history(history):
    """Raise an error unless any value is a history."""
    if not is_history(history):
        raise InvalidHistoryError("this is not a history")


def starts_of(history):
    """Return the list of the patches that were started, in the order of their starts."""
    return [event for event in history if event > 0]


def is_started(history, value):
    """Tell whether any value is a patch that was started in a history."""
    # The kind comes first: 1.0 and True would be found among the events, too.
    return is_integer(value) and value > 0 and value in history


def is_complete(history):
    """Tell whether no patch runs at the end."""
    return running_after(history) == []


def is_plain(history):
    """Tell whether the starts are 1, 2, 3 and so on, in this order."""
    check_history(history)
    starts = starts_of(history)
    return starts == list(range(1, len(starts) + 1))


def is_nested(history):
    """Tell whether each stop stops the patch that was started last among those that run."""
    check_history(history)
    running = []
    for event in history:
        if event > 0:
            running.append(event)
        elif running.pop() != -event:
            return False
    return True


def running_after(history):
    """Return the ascending list of the patches that run at the end."""
    check_history(history)
    return sorted([patch for patch in starts_of(history) if -patch not in history])


def arcs_of(history):
    """Return the ascending list of tuples of the indexes of each patch's start and stop.

    The stop is None for a patch that runs.
    """
    check_history(history)
    indexes = {event: index for index, event in enumerate(history)}
    return [(indexes[patch], indexes.get(-patch)) for patch in starts_of(history)]


def renumbered(history):
    """Return the history with the patches numbered 1, 2, 3 and so on by their starts."""
    check_history(history)
    numbers = {patch: index + 1 for index, patch in enumerate(starts_of(history))}
    return [numbers[event] if event > 0 else -numbers[-event] for event in history]


def without(history, gone):
    """Return the history without the events of the patches of a list."""
    check_history(history)
    if not _are_different_patches(history, gone):
        raise InvalidPatchError("this is not a list of different patches that were started")
    return [event for event in history if abs(event) not in gone]


def _are_different_patches(history, value):
    if type(value) != list or not all([is_started(history, item) for item in value]):
        return False
    return len(set(value)) == len(value)
