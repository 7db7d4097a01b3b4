"""The order of several loads at a time, and how their ranks grow.

A copy is a pair (name, lap): the load's position plus as many laps, which is 0 on a line.
"""

from handedpast.errors import NoTime
from handedpast.fractions import greater_of, order_of, rest_of
from handedpast.pairs import are_together, check_length, contacts, laps, level_at


def lap_of(x, length):
    """How many laps x is ahead of its spot; 0 on a line."""
    return 0 if length is None else x[0] // (x[1] * length)


def spot_of(x, length):
    """The spot of the position x."""
    return rest_of(x, level_at(lap_of(x, length), length))


def before_at(one, other, t, length):
    """The before of the contact in which two loads are together at t; 0 if they are apart."""
    if not are_together(rest_of(one.at(t), other.at(t)), length):
        return 0
    # A span of one time keeps this independent of the number of laps.
    return contacts(one, other, length=length, since=t, until=t)[0][2]


def is_behind(one, other, t, length):
    """Whether one's copy with a position in [0, L) is behind other's."""
    way = order_of(spot_of(one.at(t), length), spot_of(other.at(t), length))
    if way != 0:
        return way < 0
    before = before_at(one, other, t, length)
    if before == 0:
        raise NoTime("two loads are together since one of them began")
    return before < 0


def copies_at(tables, t, length):
    """The list of the copies with positions in [0, L), in order; on a line that of all loads."""
    names = []
    for name in tables:
        behind = [other for other in names if is_behind(tables[other], tables[name], t, length)]
        names.insert(len(behind), name)
    return [(name, -lap_of(tables[name].at(t), length)) for name in names]


def order_at(tables, t, *, length=None):
    """The loads from the rearmost to the foremost; on a ring their copies in [0, L)."""
    check_length(length)
    # A timetable itself raises NoTime for a time before its begin.
    copies = copies_at(tables, t, length)
    return [name for name, _ in copies] if length is None else copies


def begin_of(tables):
    """The time at which all the loads begin."""
    return list(tables.values())[0].begin()


def end_of(tables):
    """The time of the last knot of all, from which on every load rests."""
    end = begin_of(tables)
    for name in tables:
        end = greater_of(end, tables[name].knots()[-1][0])
    return end


def laps_gained(one, other, t, length):
    """The growth of the laps since the begin, up to just before the contact if there is one at t."""
    gained = laps(one, other, t, length=length) - laps(one, other, one.begin(), length=length)
    return gained - 1 if before_at(one, other, t, length) < 0 else gained


def rank_gained(tables, name, t, length):
    """The growth of the rank of a load since the begin."""
    others = [tables[other] for other in tables if other != name]
    return sum([laps_gained(tables[name], other, t, length) for other in others])


def slots_at(tables, t, length):
    """The copy that each carrier is at, by the number of the carrier, counted from the laps."""
    copies = copies_at(tables, begin_of(tables), length)
    slots = list(copies)
    for k in range(len(copies)):
        name, lap = copies[k]
        rank = k + rank_gained(tables, name, t, length)
        slots[rank % len(copies)] = (name, lap - rank // len(copies))
    return slots
