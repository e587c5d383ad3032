"""What pieces of histories do to states."""

from latepatches.errors import InvalidPieceError, InvalidStateError, MismatchError
from latepatches.histories import LAST_PATCH, are_events, running_after, starts_of
from latepatches.integers import is_integer, is_integer_within
from latepatches.values import replay


def is_piece(value):
    """Tell whether any value is a piece."""
    if not are_events(value):
        return False
    stopped = set()
    for event in value:
        if event < 0:
            stopped.add(-event)
        elif event in stopped:
            return False
    return True


def is_state(value):
    """Tell whether any value is a state."""
    if type(value) != tuple or len(value) != 2:
        return False
    present, saved = value
    if not is_integer_within(present, 0, LAST_PATCH) or type(saved) != list:
        return False
    if not all([_is_saving(item) for item in saved]):
        return False
    patches = [patch for patch, _ in saved]
    values = [present] + [number for _, number in saved]
    return patches == sorted(set(patches)) and len(set(values)) == len(values)


def _is_saving(value):
    if type(value) != tuple or len(value) != 2:
        return False
    return is_integer_within(value[0], 1, LAST_PATCH) and is_integer_within(value[1], 0, LAST_PATCH)


def state_after(history):
    """Return the state at the end of a history: the present value and what the running patches saved."""
    running = running_after(history)
    presents, saved = replay(history)
    return presents[-1], [(patch, saved[patch]) for patch in running]


class Effect:
    """What a piece does to every state, written with references to the values ahead of it.

    0 refers to the value that is present there, -k to the one that patch k has saved there, and k to
    the value of a patch that the piece starts.
    """

    def __init__(self, piece):
        if not is_piece(piece):
            raise InvalidPieceError("this is not a piece")
        present, saved = _references_behind(piece)
        self._piece = list(piece)
        self._present = present
        self._saved = [(patch, saved[patch]) for patch in sorted(saved) if -patch not in piece]
        self._stopped = sorted([-event for event in piece if event < 0 and -event not in piece])
        self._ended = sorted([event for event in piece if event > 0 and -event in piece])

    @property
    def present(self):
        """The reference of the value that is present behind the piece."""
        return self._present

    @property
    def saved(self):
        """The ascending list of the tuples (patch, reference) of the patches that it starts and that run behind it."""
        return list(self._saved)

    @property
    def stopped(self):
        """The ascending list of the patches that it stops without having started them."""
        return list(self._stopped)

    @property
    def ended(self):
        """The ascending list of the patches that it starts and stops."""
        return list(self._ended)

    def __call__(self, state):
        if not is_state(state):
            raise InvalidStateError("this is not a state")
        present, saved = state[0], dict(state[1])
        if not self._fits(present, saved):
            raise MismatchError("the patches of the piece do not fit those of the state")
        values = {0: present}
        for patch in self._stopped:
            values[-patch] = saved.pop(patch)
        # A reference to a patch of the piece is its value.
        for patch, reference in self._saved:
            saved[patch] = values.get(reference, reference)
        return values.get(self._present, self._present), [(patch, saved[patch]) for patch in sorted(saved)]

    def _fits(self, present, saved):
        taken = [present] + list(saved) + list(saved.values())
        if any([patch in taken for patch in starts_of(self._piece)]):
            return False
        return all([patch in saved for patch in self._stopped])

    def __add__(self, other):
        if not isinstance(other, Effect):
            return NotImplemented
        piece = self._piece + other._piece
        if not is_piece(piece):
            raise MismatchError("the two pieces together are not a piece")
        return Effect(piece)

    def __eq__(self, other):
        if not isinstance(other, Effect):
            return False
        if self._present != other._present or self._saved != other._saved:
            return False
        return self._stopped == other._stopped and self._ended == other._ended

    def __len__(self):
        return len(self._piece)

    def __contains__(self, patch):
        # A stop stands in the piece as the negative number, which is no patch itself.
        return is_integer(patch) and patch > 0 and (patch in self._piece or -patch in self._piece)


def _references_behind(piece):
    """Return the reference of the present value behind a piece, and a dict of those that its patches save."""
    present = 0
    saved = {}
    for event in piece:
        if event > 0:
            saved[event] = present
            present = event
        else:
            # What a patch has saved ahead of the piece is referred to by the very number that stops it.
            present = saved.get(-event, event)
    return present, saved
