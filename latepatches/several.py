"""Patches that touch several settings: what they leave, and in which order they can be stopped."""

from latepatches.effects import state_after
from latepatches.errors import InvalidTouchesError
from latepatches.histories import LAST_PATCH, check_history, running_after, starts_of
from latepatches.integers import are_integers, is_integer_within
from latepatches.orders import check_order

# The settings are 0 to 9.
MANY_SETTINGS = 10


def presents_by(history, touches):
    """Return the list of the present values of all settings at the end."""
    return [present for present, _ in _states_by(history, touches)]


def restoring_order(history, touches):
    """Return an order behind whose stops all settings are original, or None if there is none."""
    if obstacle(history, touches) is not None:
        return None
    order, _ = _order_and_stuck(history, touches)
    return order


def is_restoring(history, touches, order):
    """Tell whether all settings are original behind the stops of an order."""
    _check_touches(history, touches)
    check_order(history, order)
    presents = presents_by(history + [-patch for patch in order], touches)
    return presents == [0] * MANY_SETTINGS


def obstacle(history, touches):
    """Return what makes it impossible that all settings become original, or None if they can."""
    lost = _lost_settings(history, touches)
    if lost != []:
        return ("lost", lost[0])
    _, stuck = _order_and_stuck(history, touches)
    return ("stuck", stuck) if stuck != [] else None


def is_obstacle(history, touches, value):
    """Tell whether any value is an obstacle."""
    lost, savings = _lost_settings(history, touches), _savings_by(history, touches)
    if type(value) != tuple or len(value) != 2 or not isinstance(value[0], str):
        return False
    word, what = value
    if word == "lost":
        return is_integer_within(what, 0, MANY_SETTINGS - 1) and what in lost
    return word == "stuck" and _is_stuck(savings, what)


def _check_touches(history, touches):
    """Raise an error unless any two values are a history and touches with a list for each patch that it starts."""
    check_history(history)
    if type(touches) != list or len(touches) > LAST_PATCH or not all([_are_settings(item) for item in touches]):
        raise InvalidTouchesError("this is not a list of touches")
    if not all([patch <= len(touches) for patch in starts_of(history)]):
        raise InvalidTouchesError("a patch of the history has no list of settings")


def _are_settings(value):
    if not are_integers(value, 0, MANY_SETTINGS - 1, MANY_SETTINGS):
        return False
    return value != [] and value == sorted(set(value))


def _states_by(history, touches):
    """Return the list of the states of all settings at the end."""
    _check_touches(history, touches)
    return [state_after([event for event in history if setting in touches[abs(event) - 1]])
            for setting in range(MANY_SETTINGS)]


def _savings_by(history, touches):
    """Return, for each setting, a dict of what the running patches that touch it saved."""
    return [dict(saved) for _, saved in _states_by(history, touches)]


def _lost_settings(history, touches):
    """Return the list of the settings that are not original and that no running patch touches."""
    states = _states_by(history, touches)
    return [setting for setting, (present, saved) in enumerate(states) if present != 0 and saved == []]


def _order_and_stuck(history, touches):
    """Return an order of stops that restore what they can, and the ascending list of the patches that it leaves out.

    The order is found from its end. Where it leaves out none, it restores all settings that running patches touch.
    """
    savings, order, left = _savings_by(history, touches), [], running_after(history)
    while True:
        # A patch that can be stopped last still can with others behind it, so that none is put there too early.
        harmless = [patch for patch in left if not _spoils(savings, left, patch)]
        if harmless == []:
            return order, left
        order = harmless + order
        left = [patch for patch in left if patch not in harmless]


def _spoils(savings, patches, patch):
    """Tell whether a patch, stopped last of some, leaves a setting not original that no running patch else touches."""
    return any([saved.get(patch, 0) != 0 and all([other in patches for other in saved]) for saved in savings])


def _is_stuck(savings, value):
    """Tell whether any value is a list of running patches none of which can be stopped last of them."""
    if not are_integers(value, 1, LAST_PATCH, LAST_PATCH) or value != sorted(set(value)):
        return False
    return value != [] and all([_spoils(savings, value, patch) for patch in value])
