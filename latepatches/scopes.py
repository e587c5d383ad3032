"""Options, and holds that change them for some time."""

from latepatches.errors import InvalidNumberError, InvalidOrderError, LatepatchError, NotRunningError, StartedError
from latepatches.integers import are_integers, check_settable


class InnermostError(LatepatchError):
    """Raised within the innermost hold, to be caught outside all of them."""


class Option:
    """An option with an integer."""

    def __init__(self, value):
        check_settable(value)
        self.now = value

    @property
    def value(self):
        """The integer of the option."""
        return self.now

    @value.setter
    def value(self, value):
        check_settable(value)
        self.now = value


class Hold:
    """A context object that gives an option a value of its own from its beginning to its end."""

    def __init__(self, option, value):
        check_settable(value)
        self._option = option
        self._own = value
        # The value that it puts back at its end, None while it has not begun.
        self._found = None

    def begin(self):
        """Save the value of the option and set the own one, and return the value of the option."""
        if self._found is not None:
            raise StartedError("this hold has begun")
        option = self._option
        self._found = option.now
        option.now = self._own
        return option.now

    def finish(self):
        """Put the saved value back, whatever the option has now, and return the value of the option."""
        if self._found is None:
            raise NotRunningError("this hold has not begun")
        self._put_back()
        return self._option.now

    def __enter__(self):
        self.begin()
        return self._option

    def __exit__(self, kind, value, trace):
        # A hold that was finished by hand has nothing to put back.
        if self._found is None:
            return
        self._put_back()

    def _put_back(self):
        option = self._option
        option.now = self._found
        self._found = None


def values_within(option, *values):
    """Return the list of the values of an option behind each beginning and each end of holds within one another."""
    _check_values(list(values))
    return _values_within(option, values)


def value_after_error(option, *values):
    """Return the value of an option behind an error that was raised within the innermost of some holds."""
    _check_values(list(values))
    try:
        _raise_within(option, values)
    except InnermostError:
        pass
    return option.value


def values_by_hand(option, values, order):
    """Return the list of the values of an option behind each beginning of holds, and behind each end in an order."""
    _check_values(values)
    if not _is_order_of(values, order):
        raise InvalidOrderError("this is not a list of all indexes of the values")
    holds = [Hold(option, value) for value in values]
    told = []
    for hold in holds:
        told.append(hold.begin())
    for index in order:
        told.append(holds[index].finish())
    return told


def _check_values(values):
    """Raise an error unless any value is a list of integers that an option can have."""
    if type(values) != list:
        raise InvalidNumberError("this is not a list of integers")
    for value in values:
        check_settable(value)


def _is_order_of(values, order):
    """Tell whether any value is a list of all indexes of the values, each once."""
    if not are_integers(order, 0, len(values) - 1, len(values)):
        return False
    return sorted(order) == list(range(len(values)))


def _values_within(option, values):
    if values == ():
        return []
    with Hold(option, values[0]) as held:
        told = [held.value] + _values_within(held, values[1:])
    return told + [option.value]


def _raise_within(option, values):
    if values == ():
        raise InnermostError("this is caught outside all holds")
    with Hold(option, values[0]) as held:
        _raise_within(held, values[1:])
