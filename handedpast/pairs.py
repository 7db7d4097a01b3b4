"""Two timetables: when they are together, and how often they cross.

Everything is read off the gap, the first load's position less the second's.
It is a list of plain knots from the later begin on, and the loads are together
where it is at a level: a multiple of the ring's length, on a line only 0.
"""

from handedpast.errors import NoTime, NoTrack
from handedpast.fractions import ZERO, greater_of, is_whole, order_of
from handedpast.fractions import rest_of, share_of, sign_of, sum_of
from handedpast.tables import pace_behind, plain_knots, position_at


def check_length(length):
    """Raises NoTrack unless length, of any kind, is None or an integer >= 1."""
    if length is None:
        return
    if not is_whole(length) or length < 1:
        raise NoTrack("the length of a ring is an integer from 1 on")


def check_begun(one, other, t):
    """Raises NoTime if t is before one of the begins."""
    if order_of(t, one.begin()) < 0 or order_of(t, other.begin()) < 0:
        raise NoTime("the time is before a begin")


def check_span(one, other, since, until):
    """Raises NoTime unless both begin by since, and until is not before it."""
    check_begun(one, other, since)
    if order_of(until, since) < 0:
        raise NoTime("the end is before the beginning")


def merged(times, others):
    """All members of two ascending lists of times in one ascending list."""
    both = []
    k = 0
    for t in times:
        while k < len(others) and order_of(others[k], t) < 0:
            both.append(others[k])
            k += 1
        both.append(t)
    return [*both, *others[k:]]


def gap_knots(one, other):
    """The plain knots of one's position less other's, from the later begin on."""
    times = [greater_of(one.begin(), other.begin())]
    all_times = merged([t for t, _ in one.knots()], [t for t, _ in other.knots()])
    for t in all_times:
        if order_of(t, times[-1]) > 0:
            times.append(t)
    return plain_knots([(t, rest_of(one.at(t), other.at(t))) for t in times])


def are_together(gap, length):
    """Whether loads with this gap are at one spot."""
    if length is None:
        return gap == ZERO
    return gap[1] == 1 and gap[0] % length == 0


def laps_of(gap, length):
    """The laps of loads with this gap; they are the same just above it."""
    if length is None:
        return -1 if sign_of(gap) < 0 else 0
    return gap[0] // (gap[1] * length)


def laps_below(gap, length):
    """The laps of loads whose gap is just below this one."""
    found = laps_of(gap, length)
    return found - 1 if are_together(gap, length) else found


def level_at(lap, length):
    """The gap at which the laps grow from lap - 1 to lap."""
    return ZERO if length is None else (lap * length, 1)


def turned(gap, side):
    """The gap if side is 1; if it is -1, that of the two loads exchanged."""
    return (side * gap[0], gap[1])


def contact_from(knots, k, length):
    """The contact that begins at knot k; None if none does."""
    before = 0 if k == 0 else -sign_of(pace_behind(knots, k - 1))
    goes_on = k > 0 and before == 0
    if goes_on or not are_together(knots[k][1], length):
        return None
    # Knots are plain, so the loads part right behind a piece on which they stay together.
    last = k if sign_of(pace_behind(knots, k)) != 0 else k + 1
    if last == len(knots):
        return (knots[k][0], None, before, 0)
    return (knots[k][0], knots[last][0], before, sign_of(pace_behind(knots, last)))


def contacts_between(knots, k, length, since):
    """Yields the contacts strictly between knot k and the next one, from since on."""
    pace = pace_behind(knots, k)
    side = sign_of(pace)
    if side == 0 or order_of(knots[k + 1][0], since) <= 0:
        return
    start, gap = knots[k]
    # A falling gap is read as the rising one of the two loads exchanged.
    low = turned(gap, side)
    first = laps_of(low, length) + 1
    if order_of(start, since) < 0:
        first = laps_below(turned(position_at(knots, since), side), length) + 1
    last = laps_below(turned(knots[k + 1][1], side), length)
    for lap in range(first, last + 1):
        way = rest_of(level_at(lap, length), low)
        t = sum_of(start, share_of(way, turned(pace, side)))
        yield (t, t, -side, side)


def contacts_since(knots, length, since):
    """Yields all contacts that do not end before since, in ascending order."""
    for k in range(len(knots)):
        contact = contact_from(knots, k, length)
        if contact is not None and not ends_before(contact, since):
            yield contact
        yield from contacts_between(knots, k, length, since)


def ends_before(contact, t):
    """Whether the contact ends at a time before t."""
    end = contact[1]
    return end is not None and order_of(end, t) < 0


def is_crossing(contact):
    """Whether the loads change their order in this contact."""
    before, after = contact[2:]
    return before != 0 and after != 0 and before != after


def growth_at(knots, k, length, t):
    """The direction of a crossing that begins at knot k and ends before t, or 0."""
    contact = contact_from(knots, k, length)
    if contact is None or not is_crossing(contact) or not ends_before(contact, t):
        return 0
    return contact[3]


def growth_between(knots, k, length, t):
    """The growth of the laps strictly between knot k and the next one, before t."""
    side = sign_of(pace_behind(knots, k))
    if side == 0 or order_of(t, knots[k][0]) <= 0:
        return 0
    low = knots[k][1]
    high = knots[k + 1][1]
    if order_of(t, knots[k + 1][0]) < 0:
        high = position_at(knots, t)
    passed = laps_below(turned(high, side), length) - laps_of(turned(low, side), length)
    return side * passed


def counts_before(knots, length, t):
    """The numbers of forward and of backward crossings before t."""
    # All crossings between two knots have one direction, so no growth hides a pair of them.
    growths = [growth_at(knots, k, length, t) for k in range(len(knots))]
    growths.extend([growth_between(knots, k, length, t) for k in range(len(knots))])
    forward = sum([growth for growth in growths if growth > 0])
    backward = -sum([growth for growth in growths if growth < 0])
    return (forward, backward)


def contacts(one, other, *, length=None, since, until):
    """The ascending list of the contacts that contain a time from since to until."""
    check_length(length)
    check_span(one, other, since, until)
    knots = gap_knots(one, other)
    found = []
    for contact in contacts_since(knots, length, since):
        if order_of(until, contact[0]) < 0:
            break
        found.append(contact)
    return found


def laps(one, other, t, *, length=None):
    """The laps of the two loads at t."""
    check_length(length)
    check_begun(one, other, t)
    return laps_of(rest_of(one.at(t), other.at(t)), length)


def crossing_counts(one, other, *, length=None, since, until):
    """The numbers of forward and of backward crossings from since on and before until."""
    check_length(length)
    check_span(one, other, since, until)
    knots = gap_knots(one, other)
    forward, backward = counts_before(knots, length, until)
    forward_gone, backward_gone = counts_before(knots, length, since)
    return (forward - forward_gone, backward - backward_gone)


def crossings(one, other, *, length=None, since):
    """Yields (time, direction) of every crossing at since or later, in ascending order."""
    check_length(length)
    check_begun(one, other, since)
    knots = gap_knots(one, other)
    for contact in contacts_since(knots, length, since):
        if is_crossing(contact):
            yield (contact[1], contact[3])
