"""The errors that this package raises."""


class TrackError(ValueError):
    """Any error of this package."""


class NoTable(TrackError):
    """A value is no list of knots that makes a timetable."""


class NoTime(TrackError):
    """A time is before a begin, or an end before its beginning."""


class NoTrack(TrackError):
    """There is no such track, or the loads cannot start on it."""


class NoName(TrackError):
    """A value is no name, or nothing of this name is there."""

    def __init__(self, name):
        super().__init__("no such name")
        self.name = name


class Taken(TrackError):
    """Something of this name is there already."""

    def __init__(self, name):
        super().__init__("the name is taken")
        self.name = name


class NoCarrier(TrackError):
    """There is no such carrier."""


class NoRest(TrackError):
    """A load has knots later than this time."""


class NoSpot(TrackError):
    """A place is no position, or its spot is not free."""


class NoBook(TrackError):
    """A value is no log, or no list of operations, from this row on."""

    def __init__(self, row):
        super().__init__("a row is wrong")
        self.row = row


class NoText(TrackError):
    """A value is not the text that is asked for, from this row on."""

    def __init__(self, row):
        super().__init__("a line is wrong")
        self.row = row
