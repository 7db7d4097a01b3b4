"""Which carrier would hold a load if it were somewhere else."""

from handedpast.counting import check_load, rank_of
from handedpast.errors import NoSpot
from handedpast.fractions import ascending, product_of, rest_of, sum_of
from handedpast.orders import begin_of, lap_of, spot_of
from handedpast.pairs import laps, laps_of, level_at

ONE = (1, 1)
HALF = (1, 2)


def others_of(tables, name):
    """The timetables of all other loads."""
    return [tables[other] for other in tables if other != name]


def holder_there(tables, name, t, x, length):
    """The carrier that would hold the load at x, which is not the spot of another one."""
    begin = begin_of(tables)
    rank = rank_of(tables, name, begin, length=length)
    for other in others_of(tables, name):
        gained = laps_of(rest_of(x, other.at(t)), length) - laps(tables[name], other, begin, length=length)
        rank = rank + gained
    return rank % len(tables)


def holder_if(tables, name, t, x, *, length=None):
    """The carrier that would hold the load if it were at x."""
    check_load(tables, name, t, length)
    spots = [spot_of(other.at(t), length) for other in others_of(tables, name)]
    if spot_of(x, length) in spots:
        raise NoSpot("another load is at this spot")
    return holder_there(tables, name, t, x, length)


def bounds_at(tables, name, t, length):
    """The ends of the windows of a load, not in order and some of them perhaps twice."""
    places = [other.at(t) for other in others_of(tables, name)]
    if length is None:
        return places
    # All spots lie from the start of the load's lap on, and before its end.
    lap = lap_of(tables[name].at(t), length)
    start = level_at(lap, length)
    return [start, level_at(lap + 1, length), *[sum_of(start, spot_of(place, length)) for place in places]]


def between(low, high):
    """Some position between these, either of which may be None."""
    if low is None:
        return ONE if high is None else rest_of(high, ONE)
    if high is None:
        return sum_of(low, ONE)
    return product_of(sum_of(low, high), HALF)


def windows(tables, name, t, *, length=None):
    """The list of (low, high, carrier) of the intervals in which one carrier would hold the load."""
    check_load(tables, name, t, length)
    bounds = bounds_at(tables, name, t, length)
    ends = []
    for k in ascending(bounds):
        if bounds[k] not in ends:
            ends.append(bounds[k])
    if length is None:
        ends = [None, *ends, None]
    found = []
    for k in range(1, len(ends)):
        x = between(ends[k - 1], ends[k])
        found.append((ends[k - 1], ends[k], holder_there(tables, name, t, x, length)))
    return found
