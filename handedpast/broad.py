"""Carriers with a width: they stand on a track that is longer by all their widths."""

from handedpast.counting import check_load, place_at, rank_of
from handedpast.fractions import product_of, sum_of
from handedpast.orders import begin_of, lap_of, rank_gained


def body_at(tables, carrier, t, width, *, length=None):
    """The position of the carrier's body."""
    place = place_at(tables, carrier, t, length=length)
    return sum_of(place, product_of((carrier, 1), width))


def load_at(tables, name, t, width, *, length=None):
    """The position of the load, at its carrier's body, unrolled around the longer ring."""
    rank = rank_of(tables, name, t, length=length)
    laps_before = lap_of(tables[name].at(begin_of(tables)), length)
    widths = (rank + laps_before * len(tables), 1)
    return sum_of(tables[name].at(t), product_of(widths, width))


def rank_growth(tables, name, t, *, length=None):
    """The growth of the load's rank since the begin."""
    check_load(tables, name, t, length)
    return rank_gained(tables, name, t, length)
