"""Paths: the positions of the carriers as lists of knots, and whether given ones keep the loads."""

from handedpast.errors import NoTable
from handedpast.fractions import least_of, order_of, sum_of
from handedpast.orders import begin_of, end_of
from handedpast.pairs import level_at, merged
from handedpast.play import Play, check_tables
from handedpast.tables import are_knots, knot_before, pace_behind, plain_knots, position_at


def check_paths(paths, many):
    """Raises NoTable unless paths, of any kind, is a list of as many lists of ascending knots."""
    fits = isinstance(paths, (list, tuple)) and len(paths) == many
    if not fits or not all([are_knots(path) for path in paths]):
        raise NoTable("the paths are one list of knots with ascending times for each carrier")


def path_of(simulation, tables, carrier):
    """The knots of the carrier's position: the begin, and where its slope changes."""
    times = [begin_of(tables)]
    for start, stop, name in simulation.spells(carrier, end_of(tables)):
        inside = [t for t, _ in tables[name].knots() if order_of(start, t) < 0 and order_of(t, stop) < 0]
        times.extend([*inside, stop])
    return plain_knots([(t, simulation.place(carrier, t)) for t in times])


def parting_of(path, other):
    """The time from which on two paths that begin alike differ; None if they never do."""
    times = merged([t for t, _ in path], [t for t, _ in other])
    for k in range(1, len(times)):
        # Both are straight since the time before, so that they differ from there on.
        if position_at(path, times[k]) != position_at(other, times[k]):
            return times[k - 1]
    return None


def stay_in_order(paths, t, length):
    """Whether paths that are in order at t are so just after it, too."""
    here = [(position_at(path, t), pace_behind(path, knot_before(path, t))) for path in paths]
    if length is not None:
        place, pace = here[0]
        here.append((sum_of(place, level_at(1, length)), pace))
    for k in range(1, len(here)):
        if here[k - 1][0] == here[k][0] and order_of(here[k - 1][1], here[k][1]) > 0:
            return False
    return True


def keeps(tables, paths, *, length=None):
    """None if the paths keep the loads; else the pair of the time up to which they do and a word."""
    check_tables(tables, length)
    check_paths(paths, len(tables))
    forced = paths_of(tables, length=length)
    if any([paths[k][0] != forced[k][0] for k in range(len(forced))]):
        return (begin_of(tables), "begin")
    # Both conditions hold exactly as long as all paths are the forced ones.
    partings = [parting_of(paths[k], forced[k]) for k in range(len(forced))]
    time = least_of([t for t in partings if t is not None])
    if time is None:
        return None
    return (time, "load" if stay_in_order(paths, time, length) else "order")


def paths_of(tables, *, length=None):
    """The paths that keep the loads, with as few knots as possible."""
    simulation = Play(tables, length=length)
    return [path_of(simulation, tables, carrier) for carrier in range(len(tables))]
