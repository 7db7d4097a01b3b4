"""Items 1 to 3 of keeping, tracks, books and broad: paths."""

import inspect
import unittest
from fractions import Fraction

from helper import LINE, NAMES, ODD_VALUES, RING, begin_number, frac, height, number, random_plays, slow_moments
from helper import spot_number, stops_of, table, times_of

from handedpast import keeping
from handedpast.errors import NoTable, NoTrack
from handedpast.keeping import keeps, paths_of
from handedpast.play import Play

SWING = {"a": table(*[(k, k % 2) for k in range(40)]), "b": table((0, Fraction(1, 2)))}


def path(*knots):
    """A path from pairs of numbers of Python's own."""
    return [(frac(t), frac(x)) for t, x in knots]


def way(knots):
    """A path as a list of pairs of numbers of Python's own."""
    return [(number(t), number(x)) for t, x in knots]


def way_at(knots, t):
    """The position at the number t on a way."""
    for (start, here), (end, there) in zip(knots, knots[1:]):
        if start <= t <= end:
            return here + (there - here) * (t - start) / (end - start)
    return knots[-1][1] if t > knots[0][0] else knots[0][1]


def slow_paths(tables, length):
    """The ways of all carriers, from a slow search."""
    moments = slow_moments(tables, length)
    ends = [start for start, _ in moments[1:]] + [moments[-1][0] + 1]
    found = []
    for carrier in range(len(tables)):
        knots = []
        for (start, copies), end in zip(moments, ends):
            name, lap = copies[carrier]
            for t in (start, end):
                knots.append((t, height(tables[name], t) + lap * (length or 0)))
        found.append(knots)
    return found


def slow_keeps(tables, paths, length):
    """What keeps returns, by looking at both conditions at every time at which something may change."""
    begin = begin_number(tables)
    ways = [way(knots) for knots in paths]
    starts = sorted(spot_number(height(made, begin), length) for made in tables.values())
    if [knots[0] for knots in ways] != [(begin, x) for x in starts]:
        return (frac(begin), "begin")
    moved = [lambda t, knots=knots: way_at(knots, t) for knots in ways]
    moved += [lambda t, made=made: height(made, t) for made in tables.values()]
    times = {t for knots in ways for t, _ in knots} | {number(t) for made in tables.values() for t, _ in made.knots()}
    times = sorted(times)
    every = set(times)
    for start, end in zip(times, times[1:]):
        for k, one in enumerate(moved):
            for other in moved[:k]:
                every.update(levels_between(one, other, start, end, length))
    times = sorted(every)
    for t, end in zip(times, times[1:] + [times[-1] + 1]):
        middle = (t + end) / 2
        places = [one(middle) for one in moved[:len(ways)]]
        if places != sorted(places) or length is not None and places[-1] - places[0] > length:
            return (frac(t), "order")
        spots = [sorted(spot_number(one(middle), length) for one in part)
                 for part in (moved[:len(ways)], moved[len(ways):])]
        if spots[0] != spots[1]:
            return (frac(t), "load")
    return None


def levels_between(one, other, start, end, length):
    low, high = one(start) - other(start), one(end) - other(end)
    if low == high:
        return
    lap = length or 1
    for level in range(int(min(low, high) // lap), int(max(low, high) // lap) + 2):
        t = start + (end - start) * (level * lap - low) / (high - low)
        if start < t < end and (length or level == 0):
            yield t


def changed_paths(dice, tables, paths, length):
    """Paths with one of many changes; some of them change nothing."""
    paths = [list(knots) for knots in paths]
    kind = dice.choice([0, 0, 0, 1, 2, 3, 4, 5, 6, 6])
    k, other = dice.randrange(len(paths)), dice.randrange(len(paths))
    t = dice.choice(stops_of(tables, length))
    if kind == 0:
        meetings = [number(row[0]) for row in Play(tables, length=length).handovers()]
        t = dice.choice(meetings) if meetings else t
        k, other = dice.sample(range(len(paths)), 2) if len(paths) > 1 else (k, k)
        paths[k], paths[other] = exchanged_from(paths[k], paths[other], t)
    elif kind == 1:
        kept = [knot for knot in paths[k] if number(knot[0]) < t] or paths[k][:1]
        paths[k] = kept + path((t, way_at(way(paths[k]), t))) if t > number(kept[-1][0]) else kept
    elif kind == 2:
        lap = length or 10
        paths[k] = [(u, frac(number(x) + lap)) for u, x in paths[k]]
    elif kind == 3:
        at = dice.randrange(len(paths[k]))
        u, x = paths[k][at]
        paths[k][at] = (u, frac(number(x) + Fraction(dice.choice([-1, 1]), dice.choice([1, 2, 1000]))))
    elif kind == 4:
        name = dice.choice(list(tables))
        paths[k] = tables[name].knots()
    elif kind == 5:
        paths[k] = path((number(paths[k][-1][0]) + 1, number(paths[k][-1][1])))
    else:
        paths = [split(knots, dice) for knots in paths]
    return paths


def exchanged_from(one, other, t):
    """Two paths that are exchanged from t on, joined where they are apart."""
    made = []
    for first, second in ((one, other), (other, one)):
        knots = [knot for knot in first if number(knot[0]) < t] or first[:1]
        if t > number(knots[-1][0]):
            knots = knots + path((t, way_at(way(first), t)))
        made.append(knots + [knot for knot in second if number(knot[0]) > t])
    return made


def split(knots, dice):
    """The same path with further knots."""
    ways = way(knots)
    times = {t for t, _ in ways} | {ways[0][0] + Fraction(k, 7) for k in dice.sample(range(1, 99), 50)}
    return path(*[(t, way_at(ways, t)) for t in sorted(times)])


class PathsTest(unittest.TestCase):
    """Item 1."""

    def test_examples(self):
        self.assertEqual(paths_of(LINE), [[((0, 1), (0, 1)), ((2, 1), (2, 1))],
                                          [((0, 1), (2, 1)), ((2, 1), (2, 1)), ((4, 1), (4, 1))]])
        self.assertEqual(paths_of(RING, length=10), [
            path((0, 0), (5, 5), (15, 5), (20, 10)), path((0, 5), (5, 5), (15, 15))])

    def test_interface(self):
        self.assertEqual(str(inspect.signature(paths_of)), "(tables, *, length=None)")
        self.assertEqual(str(inspect.signature(keeps)), "(tables, paths, *, length=None)")
        for made in (paths_of, keeps):
            self.assertEqual(made.__module__, keeping.__name__)
        self.assertEqual(paths_of(length=10, tables=RING), paths_of(RING, length=10))
        self.assertIsNone(keeps(length=10, paths=paths_of(RING, length=10), tables=RING))

    def test_few_knots(self):
        self.assertEqual(paths_of({"a": table((3, 7))}), [path((3, 7))])
        self.assertEqual(paths_of({"a": table((0, 7), (1, 7), (2, 7))}), [path((0, 7))])
        self.assertEqual(paths_of({"a": table((0, 0), (1, 1), (2, 2), (5, 2))}), [path((0, 0), (2, 2))])
        self.assertEqual(paths_of({"a": table((0, 27))}, length=10), [path((0, 7))])
        self.assertEqual(paths_of({"a": table((0, -3), (1, 30))}, length=10), [path((0, 7), (1, 40))])
        # Loads that exchange their slopes where they meet leave their carriers straight ways.
        crossing = {"a": table((0, 0), (1, 1), (2, 1)), "b": table((0, 1), (1, 1), (2, 2))}
        self.assertEqual(paths_of(crossing), [path((0, 0), (1, 1)), path((0, 1), (1, 1), (2, 2))])

    def test_more_than_40_knots(self):
        paths = paths_of(SWING)
        self.assertEqual([len(knots) for knots in paths], [59, 60])
        self.assertIsNone(keeps(SWING, paths))
        paths = paths_of(SWING, length=1)
        self.assertGreater(min(len(knots) for knots in paths), 40)
        self.assertIsNone(keeps(SWING, paths, length=1))

    def test_positions_of_the_carriers(self):
        many = 0
        for tables, length, dice in random_plays(120, 101):
            paths = paths_of(tables, length=length)
            simulation = Play(tables, length=length)
            self.assertEqual(len(paths), len(tables))
            slow = slow_paths(tables, length)
            for k, knots in enumerate(paths):
                self.assertIsInstance(knots, list)
                ways = way(knots)
                for t in times_of(tables, length):
                    self.assertEqual(way_at(ways, t), number(simulation.place(k, frac(t))))
                    self.assertEqual(way_at(ways, t), way_at(slow[k], t))
                slopes = [(there - here) / (end - start) for (start, here), (end, there) in zip(ways, ways[1:])] + [0]
                self.assertTrue(all(one != other for one, other in zip(slopes, slopes[1:])))
                self.assertEqual(ways[0][0], begin_number(tables))
                self.assertTrue(length is None or 0 <= ways[0][1] < length)
                many += len(knots)
        self.assertGreater(many, 1000)

    def test_returned_lists(self):
        tables = dict(RING)
        paths = paths_of(tables, length=10)
        paths[0].clear()
        paths.pop()
        self.assertEqual(tables, RING)
        self.assertEqual(paths_of(tables, length=10)[0], path((0, 0), (5, 5), (15, 5), (20, 10)))

    def test_twelve_loads(self):
        tables = {name: table((0, k), (30, 2 * k), (60, -5 * k)) for k, name in enumerate(NAMES)}
        for length in [None, 12, 10 ** 40]:
            paths = paths_of(tables, length=length)
            self.assertIsNone(keeps(tables, paths, length=length))
            self.assertEqual(len(paths), 12)


class KeepsTest(unittest.TestCase):
    """Item 2."""

    def test_examples(self):
        self.assertEqual(keeps(LINE, [[((0, 1), (0, 1))], [((0, 1), (2, 1))]]), ((0, 1), "load"))
        self.assertIsNone(keeps(LINE, paths_of(LINE)))

    def test_begin(self):
        good = [path((0, 0), (2, 2)), path((0, 2), (2, 2), (4, 4))]
        self.assertIsNone(keeps(LINE, good))
        for first in [path((1, 0), (2, 2)), path((-1, 0), (0, 0), (2, 2)), path((0, 1), (2, 2)),
                      path((0, -10), (2, 2)), path((0, 2), (2, 2))]:
            self.assertEqual(keeps(LINE, [first, good[1]]), ((0, 1), "begin"))
        self.assertEqual(keeps(LINE, [good[1], good[0]]), ((0, 1), "begin"))
        # Before all else, whatever else there is.
        self.assertEqual(keeps(LINE, [path((0, 0), (1, 50)), path((0, 3), (4, 4))]), ((0, 1), "begin"))
        self.assertEqual(keeps({"a": table((5, 0))}, [path((7, 0))]), ((5, 1), "begin"))

    def test_begin_on_a_ring(self):
        paths = paths_of(RING, length=10)
        for lap in [-1, 1, 3]:
            moved = [[(t, frac(number(x) + 10 * lap)) for t, x in knots] for knots in paths]
            self.assertEqual(keeps(RING, moved, length=10), ((0, 1), "begin"))
            self.assertEqual(keeps(RING, [paths[0], moved[1]], length=10), ((0, 1), "begin"))

    def test_words(self):
        # Exchanged loads: the paths pass each other.
        self.assertEqual(keeps(LINE, [path((0, 0), (4, 4)), path((0, 2))]), ((2, 1), "order"))
        # Both conditions fail just after 2, and the order comes first.
        self.assertEqual(keeps(LINE, [path((0, 0), (2, 2), (4, 9)), path((0, 2))]), ((2, 1), "order"))
        # The order fails later than the loads.
        self.assertEqual(keeps(LINE, [path((0, 0), (1, 1), (2, 9)), path((0, 2))]), ((1, 1), "load"))
        self.assertEqual(keeps(LINE, [path((0, 0), (2, 2)), path((0, 2), (2, 2), (4, 4), (9, 4), (10, 3))]),
                         ((9, 1), "load"))
        self.assertEqual(keeps(LINE, [path((0, 0), (2, 2)), path((0, 2), (2, 2), (3, 3), (4, 5))]), ((3, 1), "load"))
        self.assertEqual(keeps(LINE, [path((0, 0), (2, 2), (8, 1)), path((0, 2), (2, 2), (4, 4))]), ((2, 1), "load"))

    def test_last_and_first_on_a_ring(self):
        tables = {"a": table((0, 0)), "b": table((0, 9), (2, 11))}
        good = [path((0, 0), (1, 0), (2, 1)), path((0, 9), (1, 10))]
        self.assertEqual(paths_of(tables, length=10), good)
        self.assertIsNone(keeps(tables, good, length=10))
        self.assertEqual(keeps(tables, [path((0, 0)), path((0, 9), (2, 11))], length=10), ((1, 1), "order"))
        self.assertEqual(keeps(tables, [path((0, 0), (2, 1)), path((0, 9), (2, 11))], length=10), ((0, 1), "load"))

    def test_forms(self):
        paths = paths_of(SWING)
        split_paths = [path(*[(Fraction(k, 6), way_at(way(knots), Fraction(k, 6))) for k in range(300)])
                       for knots in paths]
        for made in [paths, tuple(paths), [tuple(knots) for knots in paths], split_paths,
                     [knots + path((900, way(knots)[-1][1])) for knots in paths]]:
            kept = [list(knots) for knots in made]
            self.assertIsNone(keeps(SWING, made))
            self.assertEqual([list(knots) for knots in made], kept)

    def test_random(self):
        found = {}
        for tables, length, dice in random_plays(120, 102):
            paths = paths_of(tables, length=length)
            self.assertIsNone(keeps(tables, paths, length=length))
            for _ in range(3):
                made = changed_paths(dice, tables, paths, length)
                wanted = slow_keeps(tables, made, length)
                self.assertEqual(keeps(tables, made, length=length), wanted, (tables, made, length))
                found[wanted and wanted[1]] = found.get(wanted and wanted[1], 0) + 1
                # Guarantee (a): no other paths keep the loads.
                same = all(way_at(way(one), t) == way_at(way(other), t) for one, other in zip(made, paths)
                           for t in stops_of(tables, length) + [number(u) for u, _ in one])
                same = same and all(one[0] == other[0] for one, other in zip(made, paths))
                self.assertEqual(wanted is None, same)
        for word in [None, "begin", "order", "load"]:
            self.assertGreater(found.get(word, 0), 20, found)


class ErrorsTest(unittest.TestCase):
    """Item 3."""

    def test_no_track(self):
        wrong = [{}, {"A": table((0, 0))}, {"a": None}, {"a": table((0, 0)), "b": table((0, 10))},
                 {"a": table((0, 0)), "b": table((1, 5))}, [("a", table((0, 0)))]]
        for tables in wrong + ODD_VALUES + [None, 5]:
            for paths in [None, [], [path((0, 0))]]:
                with self.assertRaises(NoTrack):
                    keeps(tables, paths, length=10)
            with self.assertRaises(NoTrack):
                paths_of(tables, length=10)
        for length in ODD_VALUES:
            for tables in [LINE, None]:
                with self.assertRaises(NoTrack):
                    keeps(tables, None, length=length)
                with self.assertRaises(NoTrack):
                    paths_of(tables, length=length)

    def test_no_table(self):
        good = paths_of(LINE)
        wrong = [value for value in ODD_VALUES] + [None, 2, good[:1], good + good[:1], {0: good[0], 1: good[1]}]
        knots = [None, 7, "0:0", [], (), {}, [((0, 1), (0, 1)), None], [[(0, 1), (0, 1)]], [((0, 1),)],
                 [((0, 1), (0, 1), (0, 1))], [((0, 1), 0)], [((0, 2), (0, 1))], [((0, 1), (True, 1))],
                 path((0, 0), (0, 0)), path((0, 0), (2, 2), (1, 2)), {((0, 1), (0, 1)): 1}]
        wrong += [[made, good[1]] for made in knots] + [[good[0], made] for made in knots + ODD_VALUES]
        for paths in wrong:
            with self.assertRaises(NoTable, msg=paths):
                keeps(LINE, paths)
        with self.assertRaises(NoTable):
            keeps(RING, good[:1], length=10)

    def test_right_forms_raise_nothing(self):
        for first in [path((10 ** 59, 0)), path((-10 ** 59, -10 ** 59), (0, Fraction(1, 10 ** 59)))]:
            for second in [path((0, 0)), path((0, 10 ** 60 - 1))]:
                self.assertEqual(keeps(LINE, [first, second]), ((0, 1), "begin"))


if __name__ == "__main__":
    unittest.main()
