"""On a ring: how far the carriers come, and how evenly they share the laps."""

from handedpast.errors import NoTrack
from handedpast.fractions import ZERO, ascending, rest_of, sum_of
from handedpast.orders import begin_of, lap_of, slots_at, spot_of
from handedpast.play import Play, check_carrier, check_started, check_tables, place_of


def check_ring(tables, length):
    """Raises NoTrack unless the loads can start on a ring of this length."""
    if length is None:
        raise NoTrack("a line has no laps to share")
    check_tables(tables, length)


def places_at(tables, t, length):
    """The unrolled positions of all carriers."""
    return [place_of(tables, slot, t, length) for slot in slots_at(tables, t, length)]


def all_displaced(tables, t, length):
    """The displacements of all carriers."""
    starts = places_at(tables, begin_of(tables), length)
    ends = places_at(tables, t, length)
    return [rest_of(ends[k], starts[k]) for k in range(len(ends))]


def spots_at(tables, t, length):
    """The spots of the loads, in some order that depends on the spots alone."""
    return sorted([spot_of(tables[name].at(t), length) for name in tables])


def displaced(tables, carrier, t, length):
    """The carrier's position at t less that at the begin."""
    check_ring(tables, length)
    check_carrier(tables, carrier)
    check_started(tables, t)
    return all_displaced(tables, t, length)[carrier]


def walked_by(tables, carrier, t, length):
    """The total distance that the carrier has moved by t."""
    check_ring(tables, length)
    total = ZERO
    for start, end, name in Play(tables, length=length).spells(carrier, t):
        total = sum_of(total, tables[name].walked(start, end))
    return total


def spread(tables, t, length):
    """The greatest difference between the displacements of two carriers."""
    check_ring(tables, length)
    check_started(tables, t)
    ways = all_displaced(tables, t, length)
    order = ascending(ways)
    return rest_of(ways[order[-1]], ways[order[0]])


def shared(tables, t, length):
    """How many laps the loads make in total; None if they are not on the spots where they began."""
    check_ring(tables, length)
    check_started(tables, t)
    begin = begin_of(tables)
    if spots_at(tables, t, length) != spots_at(tables, begin, length):
        return None
    total = ZERO
    for name in tables:
        total = sum_of(total, rest_of(tables[name].at(t), tables[name].at(begin)))
    # The spots are the same ones, so this is a whole number of laps.
    return lap_of(total, length)
