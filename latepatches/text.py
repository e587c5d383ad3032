"""Histories as strings, and as tables."""

from latepatches.errors import InvalidFormatError
from latepatches.histories import LAST_PATCH, check_history, is_history
from latepatches.values import replay


def format_history(history):
    """Return the string in which a history is written."""
    check_history(history)
    return " ".join([f"{event:+d}" for event in history])


def parse_history(text):
    """Return the history that is written in a string."""
    if not isinstance(text, str):
        raise InvalidFormatError("this is not a string")
    events = {f"{event:+d}": event for event in range(-LAST_PATCH, LAST_PATCH + 1)}
    words = text.split(" ") if text != "" else []
    # A word that is no event becomes None, which stands in no history.
    history = [events.get(word) for word in words]
    if not is_history(history):
        raise InvalidFormatError("no history is written so")
    return history


def table_of(history):
    """Return a list with a string for each event: index, event, present value and, for a stop, the lost one."""
    check_history(history)
    presents, _ = replay(history)
    return [_table_row(index, event, presents) for index, event in enumerate(history)]


def _table_row(index, event, presents):
    row = f"{index:>3}{event:>+5}{presents[index + 1]:>4}"
    # A stop loses the value that is present ahead of it.
    return f"{row}  {presents[index]}" if event < 0 else row
