"""Speeds: whether the carriers are fast enough, and how fast they need to be."""

from handedpast.fractions import ZERO, greater_of, order_of, size_of
from handedpast.keeping import paths_of
from handedpast.orders import end_of
from handedpast.play import Play
from handedpast.tables import pace_behind


def speed_behind(path, k):
    """The speed just after knot k."""
    return size_of(pace_behind(path, k))


def fail_of(path, pace):
    """The time from which on a carrier on this path is faster than pace; None if it never is."""
    for k in range(len(path)):
        if order_of(speed_behind(path, k), pace) > 0:
            return path[k][0]
    return None


def held_after(tables, carrier, t, length):
    """The name of the load that the carrier holds just after t, which is before the last knot of all."""
    spells = Play(tables, length=length).spells(carrier, end_of(tables))
    return [name for start, _, name in spells if order_of(start, t) <= 0][-1]


def first_fail(tables, paces, *, length=None):
    """(time, carrier, name) of the first failure of a carrier; None if there is none."""
    paths = paths_of(tables, length=length)
    first = None
    for carrier in range(len(paths)):
        t = fail_of(paths[carrier], paces[carrier])
        if t is not None and (first is None or order_of(t, first[0]) < 0):
            first = (t, carrier)
    if first is None:
        return None
    t, carrier = first
    return (t, carrier, held_after(tables, carrier, t, length))


def fastest_on(path):
    """The greatest speed on the path."""
    fastest = ZERO
    for k in range(len(path)):
        fastest = greater_of(fastest, speed_behind(path, k))
    return fastest


def paces_for(tables, *, length=None):
    """The least speeds of the carriers with which none of them fails."""
    return [fastest_on(path) for path in paths_of(tables, length=length)]
