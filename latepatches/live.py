"""Live settings, whose patches are started and stopped one call at a time."""

from latepatches.errors import EmptyHistoryError, FullError, InvalidHistoryError
from latepatches.errors import NotRunningError, OutOfOrderError, StartedError
from latepatches.histories import is_history
from latepatches.integers import check_settable


class Record:
    """What a setting and its patches know together.

    These are the integers of the values, the events so far, and the values that are present from moment 0 on.
    """

    def __init__(self, integers, past, presents):
        self.integers = list(integers)
        self.past = list(past)
        self.presents = list(presents)

    def twin(self):
        """Return a record of the same, which goes on by itself."""
        return Record(self.integers, self.past, self.presents)

    def integer_now(self):
        """Return the present integer."""
        return self.integers[self.presents[-1]]

    def found_by(self, number):
        """Return the value that a patch saved, or None if it was not started."""
        # The index of a start is the moment ahead of it.
        return self.presents[self.past.index(number)] if number in self.past else None

    def is_running(self, number):
        """Tell whether a patch runs."""
        return number in self.past and -number not in self.past

    def go_on_by(self, event, present):
        """Let an event follow that leaves a value."""
        self.past.append(event)
        self.presents.append(present)

    def go_back(self):
        """Revert the last event."""
        self.past.pop()
        self.presents.pop()


class Patch:
    """A patch of a live setting, which puts back what it saved, whatever the setting is then."""

    def __init__(self, record, number):
        self._record = record
        self._number = number

    @property
    def number(self):
        """The number of the patch."""
        return self._number

    @property
    def integer(self):
        """The integer that it sets."""
        return self._record.integers[self._number]

    @property
    def saved(self):
        """The value that it saved, None if it was not started."""
        return self._record.found_by(self._number)

    @property
    def runs(self):
        """Whether it runs."""
        return self._record.is_running(self._number)

    def start(self):
        """Start the patch, and return the integer of the setting."""
        if self.saved is not None:
            raise StartedError("this patch was started before")
        self._record.go_on_by(self._number, self._number)
        return self._record.integer_now()

    def stop(self):
        """Stop the patch, and return the integer of the setting."""
        if not self.runs:
            raise NotRunningError("this patch does not run")
        self._record.go_on_by(-self._number, self.left_by_stop(self._record))
        return self._record.integer_now()

    def left_by_stop(self, record):
        """Return the value that is present behind a stop at the end of a record in which the patch runs."""
        return record.found_by(self._number)

    def described(self):
        """Return the list of words that describe the patch."""
        return [f"patch {self._number}"]


class CarefulPatch(Patch):
    """A patch that puts back what it saved only if its own value is present.

    Each method and property of a patch stands in this class, too, as the interface asks for.
    """

    @property
    def number(self):
        """The number of the patch."""
        return self._number

    @property
    def integer(self):
        """The integer that it sets."""
        return self._record.integers[self._number]

    @property
    def saved(self):
        """The value that it saved, None if it was not started."""
        return self._record.found_by(self._number)

    @property
    def runs(self):
        """Whether it runs."""
        return self._record.is_running(self._number)

    def start(self):
        """Start the patch, and return the integer of the setting."""
        return super().start()

    def stop(self):
        """Stop the patch, and return the integer of the setting."""
        return super().stop()

    def left_by_stop(self, record):
        """Return the value that is present behind a stop at the end of a record in which the patch runs."""
        present = record.presents[-1]
        return super().left_by_stop(record) if present == self._number else present

    def described(self):
        """Return the list of words that describe the patch."""
        return super().described() + ["careful"]


class StrictPatch(Patch):
    """A patch that can be stopped only while its own value is present.

    Each method and property of a patch stands in this class, too, as the interface asks for.
    """

    @property
    def number(self):
        """The number of the patch."""
        return self._number

    @property
    def integer(self):
        """The integer that it sets."""
        return self._record.integers[self._number]

    @property
    def saved(self):
        """The value that it saved, None if it was not started."""
        return self._record.found_by(self._number)

    @property
    def runs(self):
        """Whether it runs."""
        return self._record.is_running(self._number)

    def start(self):
        """Start the patch, and return the integer of the setting."""
        return super().start()

    def stop(self):
        """Stop the patch, and return the integer of the setting."""
        return super().stop()

    def left_by_stop(self, record):
        """Return the value that is present behind a stop at the end of a record in which the patch runs."""
        if record.presents[-1] != self._number:
            raise OutOfOrderError("another value than that of this patch is present")
        return super().left_by_stop(record)

    def described(self):
        """Return the list of words that describe the patch."""
        return super().described() + ["strict"]


class Setting:
    """A live setting with an integer, and with patches that are made for it."""

    # The greatest number of its patches.
    MOST = 100

    def __init__(self, original=0):
        check_settable(original)
        self._record = Record([original], [], [0])
        self._patches = []

    @property
    def integer(self):
        """The present integer."""
        return self._record.integer_now()

    @property
    def present(self):
        """The number of the patch whose integer is present, 0 for the original one."""
        return self._record.presents[-1]

    @property
    def events(self):
        """The history."""
        return list(self._record.past)

    @property
    def original(self):
        """Whether the original value is present."""
        return self._record.presents[-1] == 0

    def patch(self, number):
        """Return a new patch that sets this integer."""
        return self._keep(Patch(self._record, self._enlist(number)))

    def careful(self, number):
        """Return a new careful patch that sets this integer."""
        return self._keep(CarefulPatch(self._record, self._enlist(number)))

    def strict(self, number):
        """Return a new strict patch that sets this integer."""
        return self._keep(StrictPatch(self._record, self._enlist(number)))

    def undo(self):
        """Revert the last start or stop that is not reverted."""
        if self._record.past == []:
            raise EmptyHistoryError("there is no start or stop to revert")
        self._record.go_back()

    def tried(self, *events):
        """Return the integer that the setting would have behind some more events."""
        trial = self._record.twin()
        for event in events:
            self._check_next(trial, event)
            present = event if event > 0 else self._patches[-event - 1].left_by_stop(trial)
            trial.go_on_by(event, present)
        return trial.integer_now()

    def __len__(self):
        return len(self._record.past)

    def _enlist(self, integer):
        """Return the number of the next patch, which sets an integer."""
        check_settable(integer)
        if len(self._patches) == Setting.MOST:
            raise FullError("this setting has all its patches")
        self._record.integers.append(integer)
        return len(self._patches) + 1

    def _keep(self, patch):
        self._patches.append(patch)
        return patch

    def _check_next(self, record, event):
        """Raise an error unless any value is an event of one of the patches that makes a history of a record."""
        if not is_history(record.past + [event]) or abs(event) > len(self._patches):
            raise InvalidHistoryError("no event of a patch can follow so")
