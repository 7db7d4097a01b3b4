"""Items 5 and 6 of paces, elsewhere, texts and console: loads at other positions."""

import inspect
import unittest
from fractions import Fraction

from helper import A, LINE, NAMES, ODD_VALUES, RING, begin_number, frac, height, number, random_plays, spot_number
from helper import table, times_of

from handedpast import elsewhere
from handedpast.counting import holder_at
from handedpast.elsewhere import holder_if, windows
from handedpast.errors import NoName, NoSpot, NoTime, NoTrack
from handedpast.play import Play
from handedpast.tables import Timetable

HUGE = 10 ** 30


def moved_to(made, t, x):
    """A timetable with the same begin that is at the number x at the number t, later than the begin."""
    knots = [knot for knot in made.knots() if number(knot[0]) < t]
    return Timetable((knots[:1] if len(knots) >= 40 else knots) + [(frac(t), frac(x))])


def free_places(dice, tables, name, t, length, many):
    """Positions at which no other load is at the number t, some of them close to one."""
    others = [height(made, t) for other, made in tables.items() if other != name]
    lap = length or 10
    found = []
    while len(found) < many:
        x = dice.choice(others + [Fraction(0)]) + dice.randint(-3, 3) * lap
        x += dice.choice([-1, 1]) * Fraction(1, dice.choice([1, 2, 7, HUGE]))
        if spot_number(x, length) not in {spot_number(other, length) for other in others}:
            found.append(x)
    return found


class HolderTest(unittest.TestCase):
    """Item 5."""

    def test_examples(self):
        self.assertEqual(holder_if(LINE, "a", (1, 1), (3, 1)), 1)
        self.assertEqual(holder_if(LINE, "a", (1, 1), (1, 1)), 0)

    def test_interface(self):
        self.assertEqual(str(inspect.signature(holder_if)), "(tables, name, t, x, *, length=None)")
        self.assertEqual(str(inspect.signature(windows)), "(tables, name, t, *, length=None)")
        for made in (holder_if, windows):
            self.assertEqual(made.__module__, elsewhere.__name__)
        self.assertEqual(holder_if(length=10, x=(17, 1), t=(12, 1), name="c", tables=RING), 0)
        self.assertEqual(windows(length=10, t=(12, 1), name="c", tables=RING), windows(RING, "c", (12, 1), length=10))

    def test_against_a_timetable_that_goes_there(self):
        for tables, length, dice in random_plays(250, 171):
            begin = begin_number(tables)
            t = dice.choice([t for t in times_of(tables, length) if t > begin])
            name = dice.choice(list(tables))
            for x in free_places(dice, tables, name, t, length, 3):
                found = holder_if(tables, name, frac(t), frac(x), length=length)
                made = {**tables, name: moved_to(tables[name], t, x)}
                self.assertEqual(found, holder_at(made, name, frac(t), length=length))
                if abs(x - height(tables[name], t)) < 100:
                    self.assertEqual(found, Play(made, length=length).holder(name, frac(t)))

    def test_where_the_load_is(self):
        for tables, length, dice in random_plays(150, 172):
            t = dice.choice(times_of(tables, length))
            spots = [spot_number(height(made, t), length) for made in tables.values()]
            for name, made in tables.items():
                if spots.count(spot_number(height(made, t), length)) == 1:
                    self.assertEqual(holder_if(tables, name, frac(t), made.at(frac(t)), length=length),
                                     holder_at(tables, name, frac(t), length=length))

    def test_laps_further(self):
        for tables, length, dice in random_plays(150, 173):
            if length is None:
                continue
            t = dice.choice(times_of(tables, length))
            name = dice.choice(list(tables))
            many = len(tables)
            for x in free_places(dice, tables, name, t, length, 2):
                found = holder_if(tables, name, frac(t), frac(x), length=length)
                for laps in [1, -1, 2, many, -7 * many, HUGE, HUGE + 1, -HUGE]:
                    self.assertEqual(holder_if(tables, name, frac(t), frac(x + laps * length), length=length),
                                     (found - laps) % many)

    def test_on_a_line(self):
        for tables, _, dice in random_plays(100, 174):
            if len({height(made, begin_number(tables)) for made in tables.values()}) < len(tables):
                continue
            t = dice.choice(times_of(tables, None))
            name = dice.choice(list(tables))
            for x in free_places(dice, tables, name, t, None, 2) + [HUGE * HUGE, -HUGE * HUGE]:
                behind = sum(height(made, t) < x for other, made in tables.items() if other != name)
                self.assertEqual(holder_if(tables, name, frac(t), frac(x)), behind)

    def test_at_the_begin(self):
        tables = {"a": A, "b": table((0, 2)), "c": table((0, 15))}
        self.assertEqual([holder_if(tables, "a", (0, 1), (x, 1)) for x in (0, 1, 3, 14, 16)], [0, 0, 1, 1, 2])
        self.assertEqual([holder_if(tables, "a", (0, 1), (x, 1), length=10) for x in (0, 1, 3, 6, 10, 20)],
                         [0, 0, 1, 2, 2, 1])

    def test_no_spot(self):
        for tables, length, dice in random_plays(150, 175):
            t = dice.choice(times_of(tables, length))
            for name in tables:
                for other, made in tables.items():
                    places = [height(made, t) + laps * (length or 0) for laps in (0, 1, -3, HUGE)]
                    for x in places if other != name else []:
                        with self.assertRaises(NoSpot):
                            holder_if(tables, name, frac(t), frac(x), length=length)
                        if other != name and length is None:
                            break
                x = height(tables[name], t) + Fraction(1, HUGE)
                holder_if(tables, name, frac(t), frac(x), length=length)

    def test_errors(self):
        late = (-1, 1)
        for tables in ODD_VALUES + [None, {"A": A}, {"a": A, "b": A}]:
            for length in [None, 10]:
                with self.assertRaises(NoTrack):
                    holder_if(tables, "x", late, (2, 1), length=length)
                with self.assertRaises(NoTrack):
                    windows(tables, "x", late, length=length)
        for length in [value for value in ODD_VALUES if value is not None]:
            for tables in [LINE, None]:
                with self.assertRaises(NoTrack):
                    holder_if(tables, "x", late, (2, 1), length=length)
                with self.assertRaises(NoTrack):
                    windows(tables, "x", late, length=length)
        for value in [value for value in ODD_VALUES if value != "a"] + [None, "c", "A"]:
            for call in [lambda: holder_if(LINE, value, late, (2, 1)), lambda: windows(LINE, value, late)]:
                with self.assertRaises(NoName) as caught:
                    call()
                self.assertIs(caught.exception.name, value)
        for call in [lambda: holder_if(LINE, "a", late, (2, 1)), lambda: windows(LINE, "a", late)]:
            self.assertRaises(NoTime, call)
        with self.assertRaises(NoSpot):
            holder_if(LINE, "a", (0, 1), (2, 1))
        with self.assertRaises(NoSpot):
            holder_if(LINE, "a", (0, 1), (12, 1), length=10)
        self.assertEqual(holder_if(LINE, "a", (0, 1), (12, 1)), 1)


class WindowsTest(unittest.TestCase):
    """Item 6."""

    def test_examples(self):
        self.assertEqual(windows(LINE, "a", (1, 1)), [(None, (2, 1), 0), ((2, 1), None, 1)])
        self.assertEqual(windows({"a": A}, "a", (1, 1)), [(None, None, 0)])
        self.assertEqual(windows(RING, "c", (12, 1), length=10), [((10, 1), (15, 1), 1), ((15, 1), (20, 1), 0)])

    def test_one_load_alone(self):
        self.assertEqual(windows({"a": A}, "a", (3, 1), length=2), [((2, 1), (4, 1), 0)])
        self.assertEqual(windows({"a": A}, "a", (0, 1), length=7), [((0, 1), (7, 1), 0)])
        self.assertEqual(windows({"a": table((0, -1))}, "a", (0, 1), length=7), [((-7, 1), (0, 1), 0)])

    def test_cuts_at_the_ends(self):
        # Another load at the spot 0 cuts where the lap is cut anyway.
        tables = {"a": table((0, 13)), "b": table((0, 20)), "c": table((0, -4))}
        self.assertEqual(windows(tables, "a", (0, 1), length=10), [((10, 1), (16, 1), 1), ((16, 1), (20, 1), 2)])
        # Two others at one place leave no window between them.
        tables = {"a": table((0, 0)), "b": table((0, 1), (1, 2)), "c": table((0, 3), (1, 2))}
        self.assertEqual(windows(tables, "a", (1, 1)), [(None, (2, 1), 0), ((2, 1), None, 2)])
        self.assertEqual(windows(tables, "a", (1, 1), length=5), [((0, 1), (2, 1), 0), ((2, 1), (5, 1), 2)])

    def test_random(self):
        for tables, length, dice in random_plays(200, 176):
            t = dice.choice(times_of(tables, length))
            name = dice.choice(list(tables))
            found = windows(tables, name, frac(t), length=length)
            self.assertIsInstance(found, list)
            others = [height(made, t) for other, made in tables.items() if other != name]
            here = height(tables[name], t)
            if length is None:
                ends = [None, *sorted(set(others)), None]
            else:
                start = here - spot_number(here, length)
                ends = sorted({start, start + length} | {start + spot_number(x, length) for x in others})
            self.assertEqual([(low, high) for low, high, _ in found],
                             [(low if low is None else frac(low), high if high is None else frac(high))
                              for low, high in zip(ends, ends[1:])])
            for low, high, carrier in found:
                for x in self.inside(low, high):
                    self.assertEqual(carrier, holder_if(tables, name, frac(t), frac(x), length=length))
                if (low is None or number(low) < here) and (high is None or here < number(high)):
                    self.assertEqual(carrier, holder_at(tables, name, frac(t), length=length))
            backward = dict(reversed(tables.items()))
            self.assertEqual(windows(backward, name, frac(t), length=length), found)

    def inside(self, low, high):
        """Some numbers in an open interval."""
        low = number(low) if low is not None else (number(high) if high is not None else 0) - HUGE
        high = number(high) if high is not None else low + HUGE
        return [(low + high) / 2, low + (high - low) / HUGE ** 2, high - (high - low) / HUGE ** 2]

    def test_any_number_of_crossings(self):
        tables = {"a": table((0, 3), (1, 3 + 10 * HUGE)), "b": table((0, 5))}
        self.assertEqual(windows(tables, "a", (1, 1), length=10),
                         [((10 * HUGE, 1), (10 * HUGE + 5, 1), 0), ((10 * HUGE + 5, 1), (10 * HUGE + 10, 1), 1)])

    def test_twelve_loads(self):
        tables = {name: table((0, k), (1, 5 * k)) for k, name in enumerate(NAMES)}
        self.assertEqual([carrier for _, _, carrier in windows(tables, NAMES[4], (1, 1))], list(range(12)))
        self.assertEqual(len(windows(tables, NAMES[4], (1, 2), length=60)), 11)

    def test_returned_list_and_arguments(self):
        tables = dict(RING)
        windows(tables, "c", (12, 1), length=10).clear()
        holder_if(tables, "c", (12, 1), (1, 1), length=10)
        self.assertEqual(list(tables.items()), list(RING.items()))
        self.assertEqual(len(windows(tables, "c", (12, 1), length=10)), 2)


if __name__ == "__main__":
    unittest.main()
