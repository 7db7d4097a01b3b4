"""The simulation: carriers that exchange their loads whenever these cross.

What the carriers hold is a list of slots, one for each carrier: the copy (name, lap) at whose
position the carrier is. Carriers never pass each other, so that the slots are in order. On a
ring they go on endlessly: index k is carrier k mod n, and each time around adds a lap.
"""

from handedpast.errors import NoCarrier, NoName, NoTime, NoTrack
from handedpast.fractions import ascending, is_whole, least_of, order_of
from handedpast.fractions import rest_of, share_of, sign_of, sum_of
from handedpast.orders import begin_of, copies_at, slots_at, spot_of
from handedpast.pairs import check_length, level_at
from handedpast.tables import Timetable, knot_before

MOST_LOADS = 12
LETTERS = "abcdefghijklmnopqrstuvwxyz"


def is_name(value):
    """Whether value, of any kind, is a name."""
    if not isinstance(value, str) or not 1 <= len(value) <= 8:
        return False
    return all([letter in LETTERS for letter in value])


def are_tables(value):
    """Whether value, of any kind, is a dict of 1 to 12 names to Timetables with one begin."""
    if not isinstance(value, dict) or not 1 <= len(value) <= MOST_LOADS:
        return False
    for name in value:
        if not is_name(name) or not isinstance(value[name], Timetable):
            return False
    return all([value[name].begin() == begin_of(value) for name in value])


def check_tables(tables, length):
    """Raises NoTrack unless the loads can start on such a track; for values of any kind."""
    check_length(length)
    if not are_tables(tables):
        raise NoTrack("the loads are 1 to 12 names with Timetables that begin at one time")
    begin = begin_of(tables)
    spots = [spot_of(tables[name].at(begin), length) for name in tables]
    if len(set(spots)) < len(spots):
        raise NoTrack("two loads begin at one spot")


def check_name(tables, name):
    """Raises NoName unless name, of any kind, is that of a load."""
    if not is_name(name) or name not in tables:
        raise NoName(name)


def check_carrier(tables, carrier):
    """Raises NoCarrier unless carrier, of any kind, is the number of a carrier."""
    if not is_whole(carrier) or not 0 <= carrier < len(tables):
        raise NoCarrier("the carriers are numbered from 0 to the number of loads less 1")


def check_started(tables, t):
    """Raises NoTime if t is before the begin."""
    if order_of(t, begin_of(tables)) < 0:
        raise NoTime("the time is before the begin")


def place_of(tables, copy, t, length):
    """The position of a copy."""
    name, lap = copy
    return sum_of(tables[name].at(t), level_at(lap, length))


def copy_at(slots, index):
    """The copy with this index in the endless sequence; on a line index is that of a carrier."""
    name, lap = slots[index % len(slots)]
    return (name, lap + index // len(slots))


def meeting_times(tables, slots, t, length):
    """When neighbours that approach each other just after t meet, if no load turns before."""
    many = len(slots) if length is None else len(slots) + 1
    copies = [copy_at(slots, index) for index in range(many)]
    places = [place_of(tables, copy, t, length) for copy in copies]
    paces = [tables[name].pace(t) for name, _ in copies]
    times = []
    for k in range(1, many):
        closing = rest_of(paces[k - 1], paces[k])
        if sign_of(closing) > 0:
            times.append(sum_of(t, share_of(rest_of(places[k], places[k - 1]), closing)))
    return times


def turning_times(tables, t):
    """The time of each load's next knot after t, if it has one."""
    times = []
    for name in tables:
        knots = tables[name].knots()
        k = knot_before(knots, t) + 1
        if k < len(knots):
            times.append(knots[k][0])
    return times


def next_time(tables, slots, t, length):
    """The first time after t at which something may be exchanged; None if there is none.

    slots are those just after t. Loads that are no neighbours do not meet before others do.
    """
    return least_of([*meeting_times(tables, slots, t, length), *turning_times(tables, t)])


def first_of_run(tables, slots, t, length):
    """The index of a copy that is not together with the one before it."""
    if length is None:
        return 0
    # The copies at one position are at most n, so some of n neighbours are apart.
    places = [place_of(tables, copy_at(slots, index - 1), t, length) for index in range(len(slots) + 1)]
    return [k for k in range(len(slots)) if places[k] != places[k + 1]][0]


def runs_at(tables, slots, t, length):
    """The lists of neighbouring indexes at one position, each carrier in one of them."""
    first = first_of_run(tables, slots, t, length)
    runs = []
    place_before = None
    for index in range(first, first + len(slots)):
        place = place_of(tables, copy_at(slots, index), t, length)
        if place == place_before:
            runs[-1].append(index)
        else:
            runs.append([index])
        place_before = place
    return runs


def exchanged(tables, slots, t, length):
    """The slots just after t; slots are those just before it."""
    after = list(slots)
    for run in runs_at(tables, slots, t, length):
        copies = [copy_at(slots, index) for index in run]
        # Those that go on at one pace stay together, and keep their order.
        order = ascending([tables[name].pace(t) for name, _ in copies])
        for k in range(len(run)):
            name, lap = copies[order[k]]
            after[run[k] % len(slots)] = (name, lap - run[k] // len(slots))
    return after


def handovers_at(tables, slots, t, length):
    """The list of the handovers at t, ascending by spot; slots are those just before t."""
    after = exchanged(tables, slots, t, length)
    found = []
    for run in runs_at(tables, slots, t, length):
        carriers = [index % len(slots) for index in run]
        if any([after[carrier] != slots[carrier] for carrier in carriers]):
            spot = spot_of(place_of(tables, slots[carriers[0]], t, length), length)
            found.append((t, spot, tuple(carriers), tuple([after[carrier][0] for carrier in carriers])))
    return [found[k] for k in ascending([handover[1] for handover in found])]


class Play:
    """The simulation of loads that all begin at one time; it goes on only as far as it is asked."""

    def __init__(self, tables, *, length=None):
        check_tables(tables, length)
        self._tables = dict(tables)
        self._length = length
        begin = begin_of(self._tables)
        # Each moment is a time and the slots just after it, which hold until the next moment.
        self._moments = [(begin, copies_at(self._tables, begin, length))]

    def holder(self, name, t):
        """The carrier that holds the load at t."""
        check_name(self._tables, name)
        check_started(self._tables, t)
        names = [held for held, _ in self._slots(t)]
        return names.index(name)

    def held(self, carrier, t):
        """The name of the load that the carrier holds at t."""
        check_carrier(self._tables, carrier)
        check_started(self._tables, t)
        return self._slots(t)[carrier][0]

    def place(self, carrier, t):
        """The unrolled position of the carrier at t."""
        check_carrier(self._tables, carrier)
        check_started(self._tables, t)
        return place_of(self._tables, self._slots(t)[carrier], t, self._length)

    def handovers(self, since=None):
        """Yields all handovers from since on, or from the begin on, by time and then by spot."""
        t = begin_of(self._tables) if since is None else since
        check_started(self._tables, t)
        # Nothing that was before since is simulated for this.
        slots = slots_at(self._tables, t, self._length)
        while t is not None:
            yield from handovers_at(self._tables, slots, t, self._length)
            slots = exchanged(self._tables, slots, t, self._length)
            t = next_time(self._tables, slots, t, self._length)

    def spells(self, carrier, until):
        """The list of (from, to, name) of what the carrier holds from the begin to until."""
        check_carrier(self._tables, carrier)
        check_started(self._tables, until)
        self._simulate(until)
        starts = []
        for time, slots in self._moments:
            name = slots[carrier][0]
            if order_of(time, until) < 0 and (len(starts) == 0 or starts[-1][1] != name):
                starts.append((time, name))
        ends = [*[time for time, _ in starts[1:]], until]
        return [(starts[k][0], ends[k], starts[k][1]) for k in range(len(starts))]

    def _simulate(self, t):
        """Adds moments until there is one at t or later, or nothing more happens."""
        time, slots = self._moments[-1]
        while order_of(time, t) < 0:
            time = next_time(self._tables, slots, time, self._length)
            if time is None:
                return
            slots = exchanged(self._tables, slots, time, self._length)
            self._moments.append((time, slots))

    def _slots(self, t):
        """The slots just before t; at the begin those with which the carriers start."""
        self._simulate(t)
        k = knot_before(self._moments, t)
        if k > 0 and self._moments[k][0] == t:
            k -= 1
        return self._moments[k][1]
