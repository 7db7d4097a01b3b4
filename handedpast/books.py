"""Logs: whether some track has this log, and the track that has it.

Between two neighbouring knots the difference of two positions is linear, so that two loads cross
there exactly if their laps at both ends differ. This alone tells whether handovers are missing
between two rows: nothing is searched for meetings.
"""

from handedpast.errors import NoBook, TrackError
from handedpast.fractions import is_fraction, order_of, rest_of
from handedpast.pairs import check_length, laps_of
from handedpast.play import copy_at, place_of
from handedpast.tracks import Track, empty_scene

# How many items the row of each operation and that of a handover have.
ITEMS = {"come": 5, "lead": 4, "leave": 3, "hand": 5, "to": 2}


def is_timed_row(value):
    """Whether value, of any kind, is a tuple of a row's word, a time, and as many more items."""
    if not isinstance(value, tuple) or len(value) == 0 or not isinstance(value[0], str):
        return False
    return value[0] in ITEMS and len(value) == ITEMS[value[0]] and is_fraction(value[1])


def are_in_order(scene, slots, t):
    """Whether the carriers in these slots do not pass each other up to t, if it is one straight piece."""
    many = len(slots) if scene.length is None else len(slots) + 1
    places = []
    for index in range(many if len(slots) > 0 else 0):
        places.append(place_of(scene.tables, copy_at(slots, index), t, scene.length))
    gaps = [rest_of(places[k], places[k - 1]) for k in range(1, len(places))]
    return all([laps_of(gap, scene.length) >= 0 for gap in gaps])


def ends_of_pieces(scene, t):
    """The times of all knots between the scene's time and t, and t."""
    times = [t]
    for name in scene.tables:
        knots = scene.tables[name].knots()
        times.extend([time for time, _ in knots if order_of(scene.time, time) < 0 and order_of(time, t) < 0])
    return times


def changed(scene, row):
    """The scene after the row of an operation that takes no time; a TrackError if it cannot be one."""
    if row[0] == "come":
        return scene.came(row[2], row[3], row[4])
    if row[0] == "leave":
        return scene.left(row[2])
    # What is no tuple is no row's knots, although it might be led on with.
    return scene.led(row[2], row[3] if isinstance(row[3], tuple) else None)


class Checker:
    """Takes the rows of a log one by one, as long as they are the beginning of a log."""

    def __init__(self, length):
        # The scene is at the time of the last row; of its handovers as many are read.
        self._scene = empty_scene(length)
        self._read = 0
        self._handing = False

    def takes(self, row):
        """Whether the rows with this one are the beginning of a log; row is a value of any kind."""
        if not is_timed_row(row):
            return False
        if row[0] == "hand":
            return self._takes_handover(row)
        if row[0] == "to":
            return self._takes_advance(row[1])
        return not self._handing and row[1] == self._scene.time and self._takes_change(row)

    def _takes_handover(self, row):
        """Whether the row is the next handover."""
        if not is_fraction(row[2]) or not self._reaches(row[1]):
            return False
        hands = self._scene.hands()
        if self._read == len(hands) or hands[self._read] != row:
            return False
        self._read = self._read + 1
        self._handing = True
        return True

    def _takes_advance(self, t):
        """Whether the track may advance to t now."""
        if self._handing and t == self._scene.time:
            return False
        self._handing = False
        return self._reaches(t)

    def _takes_change(self, row):
        """Whether the operation of the row raises no error."""
        try:
            self._scene = changed(self._scene, row)
        except TrackError:
            return False
        return True

    def _reaches(self, t):
        """Whether all handovers before t are read; the scene is at t then."""
        if order_of(t, self._scene.time) <= 0:
            return t == self._scene.time
        slots = self._scene.slots_after()
        if self._read < len(self._scene.hands()):
            return False
        if not all([are_in_order(self._scene, slots, end) for end in ends_of_pieces(self._scene, t)]):
            return False
        self._scene = self._scene.reached(t, slots)
        self._read = 0
        return True


def wrong_row(book, *, length=None):
    """The index of the first wrong row of book, of any kind; None if it is the log of a track."""
    check_length(length)
    if not isinstance(book, (list, tuple)):
        return 0
    checker = Checker(length)
    for row in range(len(book)):
        if not checker.takes(book[row]):
            return row
    last = len(book)
    while last > 0 and book[last - 1][0] == "hand":
        last -= 1
    return None if last == len(book) else last


def operation_of(row):
    """The operation that wrote this row of a log."""
    return row if row[0] == "to" else (row[0], *row[2:])


def again(book, *, length=None):
    """The track that has this log."""
    row = wrong_row(book, length=length)
    if row is not None:
        raise NoBook(row)
    track = Track(length=length)
    track.do([operation_of(line) for line in book if line[0] != "hand"])
    return track
