"""What several tests use: values, slow ways to find contacts and carriers, and timetables by the hundred."""

from fractions import Fraction
from itertools import islice
from random import Random

from handedpast.tables import Timetable

A = Timetable([((0, 1), (0, 1)), ((4, 1), (4, 1))])
B = Timetable([((0, 1), (2, 1))])
C = Timetable([((0, 1), (0, 1)), ((20, 1), (20, 1))])
D = Timetable([((0, 1), (5, 1))])
LINE = {"a": A, "b": B}
RING = {"c": C, "d": D}

# Values of every kind that is called "any value", none of them a fraction or a length.
ODD_VALUES = [
    0, -1, -10, -(10 ** 40), True, False, "", "a", "10", "None", [], [1], [None], [[]], (), (1,),
    (1, 2, 3), (1, "2"), ("1", 2), (None, 1), ((1, 2), (3, 4)), (1, 0), (1, -2), (2, 4), (0, 2), (-3, 3),
    (True, 1), (1, True), (True, True), (False, 1), [1, 2], [1, 1], {}, {"a": 1}, {1: 1}, {(1, 2): [3]},
]


def frac(value):
    """A fraction of the package from a number of Python's own."""
    value = Fraction(value)
    return (value.numerator, value.denominator)


def number(value):
    """A number of Python's own from a fraction of the package."""
    return Fraction(value[0], value[1])


def table(*knots):
    """A Timetable from pairs of numbers of Python's own."""
    return Timetable([(frac(t), frac(x)) for t, x in knots])


def first(items, many):
    """The list of the first items, no more of them requested than that."""
    return list(islice(items, many))


def height(timetable, t):
    """The position at the number t, found by walking over all knots."""
    knots = [(number(time), number(x)) for time, x in timetable.knots()]
    for (start, here), (end, there) in zip(knots, knots[1:]):
        if start <= t <= end:
            return here + (there - here) * (t - start) / (end - start)
    return knots[-1][1] if t >= knots[-1][0] else knots[0][1]


def meeting_times(gap, start, end, length):
    """The numbers between start and end at which a gap that is linear there is at a level."""
    low, high = sorted([gap(start), gap(end)])
    if low == high:
        return []
    levels = [0]
    if length is not None:
        levels = [lap * length for lap in range(low // length, high // length + 2)]
    times = [start + (end - start) * (level - gap(start)) / (gap(end) - gap(start)) for level in levels]
    return [t for t in times if start < t < end]


def slow_contacts(one, other, length):
    """All contacts, found by looking at every time at which something may change, and between."""
    def gap(t):
        return height(one, t) - height(other, t)

    def together(t):
        return gap(t) == 0 if length is None else gap(t) % length == 0

    def side(t, u):
        return (gap(t) > gap(u)) - (gap(t) < gap(u))

    begin = max(number(one.begin()), number(other.begin()))
    knots = {number(t) for t, _ in one.knots() + other.knots()}
    stops = sorted({begin} | {t for t in knots if t > begin})
    times = set(stops)
    for start, end in zip(stops, stops[1:]):
        times.update(meeting_times(gap, start, end, length))
    times = sorted(times)
    found = []
    open_since = None
    for k, t in enumerate(times):
        behind = (t + times[k + 1]) / 2 if k + 1 < len(times) else t + 1
        if open_since is None and together(t):
            open_since = t
            before = side((t + times[k - 1]) / 2, t) if k > 0 else 0
        if open_since is not None and not together(behind):
            found.append((frac(open_since), frac(t), before, side(behind, t)))
            open_since = None
    if open_since is not None:
        found.append((frac(open_since), None, before, 0))
    return found


def slow_crossings(one, other, length):
    """The list of (time, direction) of all crossings, by slow_contacts."""
    every = slow_contacts(one, other, length)
    return [(end, after) for _, end, before, after in every if before * after == -1]


def random_table(dice):
    """A timetable on a coarse grid, so that meetings at knots and in intervals are common."""
    many = dice.randint(1, 7)
    times = sorted(dice.sample(range(0, 16), many))
    places = [dice.randint(-5, 5)]
    while len(places) < many:
        places.append(places[-1] if dice.random() < 0.3 else dice.randint(-5, 5))
    return table(*[(Fraction(t, 2), Fraction(x, 2)) for t, x in zip(times, places)])


def random_pairs(many, seed):
    """Yields (one, other, length, dice) for as many pairs of timetables."""
    dice = Random(seed)
    for _ in range(many):
        one = random_table(dice)
        other = random_table(dice)
        yield one, other, dice.choice([None, 1, 1, 2, 3, 50]), dice


def later_begin(one, other):
    """The later one of the begins, as a number."""
    return max(number(one.begin()), number(other.begin()))


def random_time(dice, least):
    """A number at or after least, often one at which something happens."""
    return least + Fraction(dice.randint(0, 40), dice.choice([2, 2, 3, 4, 8]))


NAMES = ["a", "b", "cc", "dog", "handedpt", "z", "aa", "ab", "ba", "q", "r", "s"]


def begin_number(tables):
    """The begin of loads that begin at one time, as a number."""
    return number(next(iter(tables.values())).begin())


def spot_number(x, length):
    """The spot of a number."""
    return x if length is None else x % length


def random_tables(dice, length):
    """One to five loads that begin at one time on different spots."""
    while True:
        begin = Fraction(dice.randint(-4, 4), 2)
        tables = {}
        for name in dice.sample(NAMES, dice.randint(1, 5)):
            made = random_table(dice)
            tables[name] = made.later(frac(begin - number(made.begin())))
        spots = {spot_number(height(made, begin), length) for made in tables.values()}
        if len(spots) == len(tables):
            return tables


def random_plays(many, seed):
    """Yields (tables, length, dice) for as many tracks."""
    dice = Random(seed)
    for _ in range(many):
        length = dice.choice([None, None, 1, 2, 3, 5, 50])
        yield random_tables(dice, length), length, dice


def stops_of(tables, length):
    """The ascending numbers at which a load turns, or two loads come together or part."""
    every = list(tables.values())
    stops = {number(t) for made in every for t, _ in made.knots()}
    for k, one in enumerate(every):
        for other in every[:k]:
            for contact in slow_contacts(one, other, length):
                stops.update(number(t) for t in contact[:2] if t is not None)
    return sorted(stops)


def times_of(tables, length):
    """The stops, numbers between each two neighbouring ones, and one after the last."""
    stops = stops_of(tables, length)
    middles = [(start + end) / 2 for start, end in zip(stops, stops[1:])]
    return sorted(stops + middles) + [stops[-1] + 1]


def slow_moments(tables, length):
    """The list of (start, copies by carrier), the copies (name, lap) being those just after start.

    Found by sorting what was there before by the positions a little later.
    """
    stops = stops_of(tables, length)
    many = len(tables)
    lap = length or 0

    def order(copies, t):
        return sorted(copies, key=lambda copy: height(tables[copy[0]], t) + copy[1] * lap)

    starts = {name: height(made, stops[0]) for name, made in tables.items()}
    copies = order([(name, -(x // length) if length else 0) for name, x in starts.items()], stops[0])
    moments = []
    for start, end in zip(stops, [*stops[1:], stops[-1] + 2]):
        around = [(name, k + turn) for turn in ([-1, 0, 1] if length else [0]) for name, k in copies]
        around = order(around, (start + end) / 2)
        copies = around[many:2 * many] if length else around
        moments.append((start, copies))
    return moments


def slow_copies(moments, t):
    """The copies by carrier just before the number t; at the begin those of the begin."""
    return [copies for start, copies in moments if start < t or start == moments[0][0]][-1]


def slow_before(one, other, t, length):
    """The before of the contact at the number t; None if the loads are apart."""
    for begin, end, before, _ in slow_contacts(one, other, length):
        if number(begin) <= t and (end is None or t <= number(end)):
            return before
    return None
