"""The values that a history makes present, saves and loses.

The value 0 is the original one, the value k that of patch k.
"""

from latepatches.errors import InvalidPatchError, InvalidPresentsError, InvalidValueError
from latepatches.histories import LAST_PATCH, MOST_EVENTS, check_history, is_started
from latepatches.integers import are_integers, is_integer


def replay(history):
    """Return the list of the present values at all moments, and a dict of what each patch saved."""
    presents, saved = [0], {}
    for event in history:
        if event > 0:
            saved[event] = presents[-1]
            presents.append(event)
        else:
            presents.append(saved[-event])
    return presents, saved


def is_value_of(history, value):
    """Tell whether any value is 0 or a patch that was started in a history."""
    if is_started(history, value):
        return True
    return is_integer(value) and value == 0


def present_after(history):
    """Return the value that is present at the end."""
    check_history(history)
    presents, _ = replay(history)
    return presents[-1]


def walk_presents(history):
    """Yield the present values at all moments, from moment 0 on."""
    check_history(history)
    # All are computed ahead of the first one, so that a caller may change the list in between.
    presents, _ = replay(history)
    yield from presents


def saved_by(history, patch):
    """Return the value that a patch saved."""
    check_history(history)
    if not is_started(history, patch):
        raise InvalidPatchError("this is not a patch that was started")
    _, saved = replay(history)
    return saved[patch]


def fate_of(history, value):
    """Return what has become of a value at the end: a tuple of a word and where it is or was lost."""
    check_history(history)
    if not is_value_of(history, value):
        raise InvalidValueError("this is neither 0 nor a patch that was started")
    presents, _ = replay(history)
    last = max([moment for moment, present in enumerate(presents) if present == value])
    if last == len(history):
        return ("present",)
    event = history[last]
    # A start that took the value away for good still runs: its stop would have put the value back.
    if event > 0:
        return ("saved", event)
    return ("lost", last)


def jump_of(history):
    """Return the list of the patches over which one jumps back from the end."""
    check_history(history)
    jump, moment = [], len(history)
    while moment > 0 and history[moment - 1] < 0:
        patch = -history[moment - 1]
        jump.append(patch)
        # The index of a start is the moment ahead of it.
        moment = history.index(patch)
    return jump


def careful_after(history):
    """Return the value that is present at the end if all patches are careful."""
    check_history(history)
    present, saved = 0, {}
    for event in history:
        if event > 0:
            saved[event] = present
            present = event
        elif present == -event:
            present = saved[-event]
    return present


def history_of(presents):
    """Return the history whose events leave the values of a list, or None if there is none."""
    if not are_integers(presents, 0, LAST_PATCH, MOST_EVENTS):
        raise InvalidPresentsError("this is not a list of present values")
    history, present, savers = [], 0, {}
    for value in presents:
        if value > 0 and value not in history:
            savers[present] = value
            history.append(value)
        elif value in savers:
            history.append(-savers.pop(value))
        else:
            # Neither a start nor a stop leaves a value that is present already, or lost.
            return None
        present = value
    return history
