"""Complete plain histories: how many there are, and which of them has which index.

In how many ways a beginning can be completed depends only on the numbers of the patches that run and
that are not started yet, and on what has become of the original value. Such ways stand in rows: row m
has, at the index r, the number for m patches that are not started yet and r patches that run.
"""

from math import comb, factorial

from latepatches.errors import InvalidHistoryError
from latepatches.histories import LAST_PATCH, is_complete, is_plain
from latepatches.integers import check_index, check_number
from latepatches.values import present_after


def count_histories(patches):
    """Return the number of the complete plain histories of so many patches."""
    _check_patches(patches)
    return _count_ways(0, patches)


def nth_history(patches, index):
    """Return the complete plain history of so many patches that has an index in list order."""
    check_index(index, count_histories(patches))
    return _nth_by(patches, _ways_of_all(patches), index)


def history_rank(history):
    """Return the index of a complete plain history."""
    _check_complete_plain(history)
    return _rank_by(history, _ways_of_all(len(history) // 2))


def count_original(patches):
    """Return how many complete plain histories of so many patches leave the original value."""
    _check_patches(patches)
    return sum([count_with_jump(patches, arcs) for arcs in range(patches + 1)])


def nth_original(patches, index):
    """Return the one with an index among those that leave the original value."""
    check_index(index, count_original(patches))
    return _nth_by(patches, _ways_of_original(patches), index)


def original_rank(history):
    """Return the index of a history among those that leave the original value."""
    _check_complete_plain(history)
    if present_after(history) != 0:
        raise InvalidHistoryError("this history does not leave the original value")
    return _rank_by(history, _ways_of_original(len(history) // 2))


def count_with_jump(patches, arcs):
    """Return how many of those that leave the original value have a jump of so many patches."""
    _check_patches(patches)
    check_number(arcs, 0, LAST_PATCH)
    if arcs == 0:
        return 1 if patches == 0 else 0
    if arcs > patches:
        return 0
    return comb(2 * patches - arcs - 1, arcs - 1) * _count_ways(0, patches - arcs)


def count_survivor(patches, survivor):
    """Return how many complete plain histories of so many patches leave a value."""
    _check_patches(patches)
    check_number(survivor, 0, patches)
    present_rows, _ = _rows_that_leave(patches)
    return sum([ahead * behind for ahead, behind in zip(_ways_to_start(survivor), present_rows[patches - survivor])])


def _check_complete_plain(history):
    """Raise an error unless any value is a complete plain history."""
    if not (is_complete(history) and is_plain(history)):
        raise InvalidHistoryError("this history is not complete and plain")


def _check_patches(patches):
    """Raise an error unless any value is a number of patches."""
    check_number(patches, 0, LAST_PATCH)


def _ways_to_start(patch):
    """Return the list of the numbers of ways up to the start of a patch, by how many patches run behind it.

    For 0 these are the ways up to moment 0.
    """
    ways = [1]
    for _ in range(patch):
        # Ahead of the start any of the running patches may be stopped, one after the other.
        for running in range(len(ways) - 1, 0, -1):
            ways[running - 1] += running * ways[running]
        ways = [0] + ways
    return ways


class Beginning:
    """The beginning of a complete plain history, which grows event by event."""

    def __init__(self, patches, ways):
        self.so_far = []
        self.running = []
        self.unstarted = list(range(1, patches + 1))
        # The patch that saved the original value, 0 while this is present, None when it is lost.
        self.saver = 0
        # Rows of ways for each word that tells what has become of the original value.
        self.ways = ways

    def following(self):
        """Return the ascending list of the events that can follow."""
        return [-patch for patch in reversed(self.running)] + self.unstarted[:1]

    def saver_behind(self, event):
        """Return the saver behind an event that follows."""
        if self.saver == 0:
            return event if event > 0 else None
        return 0 if self.saver == -event else self.saver

    def ways_behind(self, event):
        """Return the number of ways to go on behind an event that follows."""
        rows = self.ways[_fate_word(self.saver_behind(event))]
        if event > 0:
            return rows[len(self.unstarted) - 1][len(self.running) + 1]
        return rows[len(self.unstarted)][len(self.running) - 1]

    def go_on(self, event):
        """Let an event follow."""
        self.saver = self.saver_behind(event)
        self.so_far.append(event)
        if event > 0:
            self.unstarted.remove(event)
            self.running.append(event)
        else:
            self.running.remove(-event)


def _fate_word(saver):
    """Return the word for what has become of the original value."""
    if saver is None:
        return "lost"
    return "saved" if saver > 0 else "present"


def _rows_of_all(patches):
    """Return the rows of all ways."""
    return [[_count_ways(running, unstarted) for running in range(patches - unstarted + 1)]
            for unstarted in range(patches + 1)]


def _count_ways(running, unstarted):
    """Return in how many ways so many running patches, and so many that are not started, can end."""
    # Of all orders of these events, one in two has a stop behind its start, for each patch that is not started,
    # and of these orders one in so many factorial has their starts in the order of their numbers.
    return factorial(running + 2 * unstarted) // (factorial(unstarted) << unstarted)


def _rows_that_leave(patches):
    """Return the rows of the ways that leave a value that is present, and of those that leave a saved one."""
    present_rows, saved_rows = [], []
    behind_start = [0] * (patches + 1)
    for unstarted in range(patches + 1):
        # A stop would lose the value that is present, so that a start follows, or nothing.
        present = list(behind_start)
        if unstarted == 0:
            present[0] = 1
        saved = [0]
        for running in range(1, len(present)):
            # One stop puts the saved value back, the others and a start leave it saved.
            stops = present[running - 1] + (running - 1) * saved[running - 1]
            saved.append(stops + behind_start[running])
        present_rows.append(present)
        saved_rows.append(saved)
        behind_start = saved[1:]
    return present_rows, saved_rows


def _ways_of_all(patches):
    """Return the ways of the complete plain histories."""
    rows = _rows_of_all(patches)
    return {"present": rows, "saved": rows, "lost": rows}


def _ways_of_original(patches):
    """Return the ways of the complete plain histories that leave the original value."""
    present_rows, saved_rows = _rows_that_leave(patches)
    return {"present": present_rows, "saved": saved_rows, "lost": [[0] * len(row) for row in saved_rows]}


def _nth_by(patches, ways, index):
    """Return the history with an index among those that the ways count."""
    beginning = Beginning(patches, ways)
    for _ in range(2 * patches):
        events = beginning.following()
        while index >= beginning.ways_behind(events[0]):
            index -= beginning.ways_behind(events.pop(0))
        beginning.go_on(events[0])
    return beginning.so_far


def _rank_by(history, ways):
    """Return the index of a history among those that the ways count."""
    beginning = Beginning(len(history) // 2, ways)
    rank = 0
    for event in history:
        rank += sum([beginning.ways_behind(other) for other in beginning.following() if other < event])
        beginning.go_on(event)
    return rank
