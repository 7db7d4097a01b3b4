"""Timetables: piecewise linear functions from time to position."""

from handedpast.errors import NoRest, NoTable, NoTime
from handedpast.fractions import ZERO, is_fraction, order_of
from handedpast.fractions import product_of, rest_of, share_of, size_of, sum_of


def is_knot(value):
    """Whether value, of any kind, is a pair (time, position)."""
    if not isinstance(value, tuple) or len(value) != 2:
        return False
    return is_fraction(value[0]) and is_fraction(value[1])


def are_knots(value):
    """Whether value, of any kind, is a list of one knot or more, their times ascending."""
    if not isinstance(value, (list, tuple)) or len(value) == 0:
        return False
    if not all([is_knot(knot) for knot in value]):
        return False
    return all([order_of(value[k - 1][0], value[k][0]) < 0 for k in range(1, len(value))])


def knot_before(knots, t):
    """The index of the last knot at or before t; -1 if t is before all of them."""
    low = 0
    high = len(knots)
    while low < high:
        middle = (low + high) // 2
        if order_of(knots[middle][0], t) <= 0:
            low = middle + 1
        else:
            high = middle
    return low - 1


def pace_behind(knots, k):
    """The slope just after knot k."""
    if k == len(knots) - 1:
        return ZERO
    (start, here), (end, there) = knots[k], knots[k + 1]
    return share_of(rest_of(there, here), rest_of(end, start))


def position_at(knots, t):
    """The position at t, which is not before the first knot."""
    k = knot_before(knots, t)
    start, here = knots[k]
    return sum_of(here, product_of(pace_behind(knots, k), rest_of(t, start)))


def plain_knots(knots):
    """The list of the first knot and of those at which the slope changes."""
    paces = [pace_behind(knots, k) for k in range(len(knots))]
    turns = [knots[k] for k in range(1, len(knots)) if paces[k - 1] != paces[k]]
    return [knots[0], *turns]


def way_along(places):
    """The total distance from each of these positions to the next."""
    total = ZERO
    for k in range(1, len(places)):
        total = sum_of(total, size_of(rest_of(places[k], places[k - 1])))
    return total


class Timetable:
    """The way of a load: linear between its knots, resting after the last one."""

    MOST = 40

    def __init__(self, knots):
        if not are_knots(knots) or len(knots) > Timetable.MOST:
            raise NoTable("a timetable is a list of 1 to 40 knots with ascending times")
        self._knots = list(knots)
        # Equal functions have equal plain knots, however many knots are spent on them.
        self._plain = plain_knots(self._knots)

    @classmethod
    def resting(cls, t, x):
        """The timetable that begins at t and stays at x."""
        return cls([(t, x)])

    def __eq__(self, other):
        return isinstance(other, Timetable) and self._plain == other._plain

    def knots(self):
        """The list of the knots."""
        return list(self._knots)

    def begin(self):
        """The time of the first knot."""
        return self._knots[0][0]

    def at(self, t):
        """The position at t."""
        self._need_begun(t)
        return position_at(self._knots, t)

    def pace(self, t):
        """The slope just after t."""
        self._need_begun(t)
        return pace_behind(self._knots, knot_before(self._knots, t))

    def walked(self, t, u):
        """The total distance moved from t to u."""
        self._need_begun(t)
        if order_of(u, t) < 0:
            raise NoTime("the end is before the beginning")
        between = [x for time, x in self._knots if order_of(t, time) < 0 and order_of(time, u) < 0]
        return way_along([self.at(t), *between, self.at(u)])

    def rests_at(self, t):
        """Whether t is at or after the last knot."""
        return order_of(t, self._knots[-1][0]) >= 0

    def led_on(self, t, more):
        """The timetable that rests until t and then goes on with the knots more."""
        if not self.rests_at(t):
            raise NoRest("the timetable has knots after this time")
        if not are_knots(more):
            raise NoTable("a timetable goes on with a list of later knots")
        last, place = self._knots[-1]
        rest = [] if last == t else [(t, place)]
        # Knots that are not later than t do not ascend here, so that the new timetable refuses them.
        return Timetable([*self._knots, *rest, *more])

    def moved(self, x):
        """The timetable with x added to each position."""
        return Timetable([(time, sum_of(place, x)) for time, place in self._knots])

    def later(self, t):
        """The timetable with t added to each time."""
        return Timetable([(sum_of(time, t), place) for time, place in self._knots])

    def scaled(self, a):
        """The timetable with each position multiplied by a, which is not 0."""
        return Timetable([(time, product_of(place, a)) for time, place in self._knots])

    def _need_begun(self, t):
        """Raises NoTime if t is before the begin."""
        if order_of(t, self.begin()) < 0:
            raise NoTime("the time is before the begin")
