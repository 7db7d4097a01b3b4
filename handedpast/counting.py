"""Ranks, holders and places by counting laps, for any number of crossings."""

from handedpast.orders import begin_of, copies_at, rank_gained, slots_at
from handedpast.play import check_carrier, check_name, check_started, check_tables, place_of


def check_load(tables, name, t, length):
    """Raises as Play and its methods that take a name do."""
    check_tables(tables, length)
    check_name(tables, name)
    check_started(tables, t)


def check_holding(tables, carrier, t, length):
    """Raises as Play and its methods that take a carrier do."""
    check_tables(tables, length)
    check_carrier(tables, carrier)
    check_started(tables, t)


def rank_of(tables, name, t, *, length=None):
    """The rank of the load at t."""
    check_load(tables, name, t, length)
    names = [other for other, _ in copies_at(tables, begin_of(tables), length)]
    return names.index(name) + rank_gained(tables, name, t, length)


def holder_at(tables, name, t, *, length=None):
    """The carrier that holds the load at t."""
    return rank_of(tables, name, t, length=length) % len(tables)


def held_at(tables, carrier, t, *, length=None):
    """The name of the load that the carrier holds at t."""
    check_holding(tables, carrier, t, length)
    return slots_at(tables, t, length)[carrier][0]


def place_at(tables, carrier, t, *, length=None):
    """The unrolled position of the carrier at t."""
    check_holding(tables, carrier, t, length)
    return place_of(tables, slots_at(tables, t, length)[carrier], t, length)
