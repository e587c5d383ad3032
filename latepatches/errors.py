"""The errors of the package."""


class LatepatchError(ValueError):
    """The base of all errors of the package."""


class InvalidHistoryError(LatepatchError):
    """A value is no history, or not one of the kind that is asked for."""


class InvalidPatchError(LatepatchError):
    """A value is no patch that was started in the history, or no list of such."""


class InvalidValueError(LatepatchError):
    """A value is neither 0 nor a patch that was started in the history."""


class InvalidPresentsError(LatepatchError):
    """A value is no list of present values."""


class InvalidShapeError(LatepatchError):
    """A value is no shape."""


class InvalidNumberError(LatepatchError):
    """A value is no integer, or outside the limits that are named for it."""


class InvalidOrderError(LatepatchError):
    """A value is no order."""


class InvalidPieceError(LatepatchError):
    """A value is no piece."""


class InvalidStateError(LatepatchError):
    """A value is no state."""


class InvalidTouchesError(LatepatchError):
    """A value is no list of touches, or has no settings for a patch."""


class InvalidFormatError(LatepatchError):
    """A value is no string in which a history is written."""


class MismatchError(LatepatchError):
    """An effect does not fit a state, or another effect."""


class FullError(LatepatchError):
    """A setting has all the patches that it can have."""


class StartedError(LatepatchError):
    """What is to be started was started before."""


class NotRunningError(LatepatchError):
    """What is to be stopped does not run."""


class OutOfOrderError(LatepatchError):
    """A strict patch is to be stopped while its own value is not present."""


class EmptyHistoryError(LatepatchError):
    """There is no start or stop that can be undone."""
