"""Item 14 of keeping, tracks, books and broad: carriers with a width."""

import inspect
import unittest
from fractions import Fraction

from helper import A, LINE, NAMES, ODD_VALUES, RING, begin_number, frac, height, number, random_plays, slow_crossings
from helper import spot_number, table, times_of

from handedpast import broad
from handedpast.broad import body_at, load_at, rank_growth
from handedpast.counting import holder_at, place_at, rank_of
from handedpast.errors import NoCarrier, NoName, NoTime, NoTrack
from handedpast.pairs import crossing_counts
from handedpast.play import Play

HUGE = 10 ** 30
WIDTHS = [0, 1, Fraction(1, 2), Fraction(22, 7), HUGE]


class BroadTest(unittest.TestCase):
    def test_examples(self):
        self.assertEqual(body_at(LINE, 1, (3, 1), (1, 2)), (7, 2))
        self.assertEqual(load_at(LINE, "a", (3, 1), (1, 2)), (7, 2))
        self.assertEqual(rank_growth(LINE, "b", (3, 1)), -1)

    def test_interface(self):
        wanted = {body_at: "(tables, carrier, t, width, *, length=None)",
                  load_at: "(tables, name, t, width, *, length=None)",
                  rank_growth: "(tables, name, t, *, length=None)"}
        for made, signature in wanted.items():
            self.assertEqual(str(inspect.signature(made)), signature)
            self.assertEqual(made.__module__, broad.__name__)
        self.assertEqual(body_at(length=10, width=(1, 1), t=(20, 1), carrier=1, tables=RING), (16, 1))
        self.assertEqual(load_at(length=10, width=(1, 1), t=(20, 1), name="c", tables=RING), (22, 1))
        self.assertEqual(rank_growth(length=10, t=(20, 1), name="c", tables=RING), 2)

    def test_bodies(self):
        for tables, length, dice in random_plays(150, 141):
            width = dice.choice(WIDTHS)
            many = len(tables)
            for t in dice.sample(times_of(tables, length), 2):
                u = frac(t)
                bodies = [number(body_at(tables, k, u, frac(width), length=length)) for k in range(many)]
                simulation = Play(tables, length=length)
                self.assertEqual(bodies, [number(simulation.place(k, u)) + k * width for k in range(many)])
                places = [number(place_at(tables, k, u, length=length)) for k in range(many)]
                if length is not None:
                    bodies.append(bodies[0] + length + many * width)
                    places.append(places[0] + length)
                for k in range(1, len(bodies)):
                    # They touch exactly where their loads are together.
                    self.assertGreaterEqual(bodies[k] - bodies[k - 1], width)
                    self.assertEqual(bodies[k] - bodies[k - 1] == width, places[k] == places[k - 1])

    def test_loads_are_at_their_carriers_bodies(self):
        for tables, length, dice in random_plays(150, 142):
            width = dice.choice(WIDTHS)
            many = len(tables)
            begin = begin_number(tables)
            for t in dice.sample(times_of(tables, length), 2):
                u = frac(t)
                for name, made in tables.items():
                    place = number(load_at(tables, name, u, frac(width), length=length))
                    body = number(body_at(tables, holder_at(tables, name, u, length=length), u, frac(width),
                                          length=length))
                    if length is None:
                        self.assertEqual(place, body)
                        laps = 0
                    else:
                        self.assertEqual(spot_number(place - body, length + many * width), 0)
                        laps = height(made, begin) // length
                    rank = rank_of(tables, name, u, length=length)
                    self.assertEqual(place, height(made, t) + (rank + laps * many) * width)
                    if width == 0:
                        self.assertEqual(frac(place), made.at(u))

    def test_growth_by_the_crossings(self):
        for tables, length, dice in random_plays(150, 143):
            begin = begin_number(tables)
            for t in dice.sample(times_of(tables, length), 2):
                for name, made in tables.items():
                    found = rank_growth(tables, name, frac(t), length=length)
                    every = [way for other in tables if other != name
                             for time, way in slow_crossings(made, tables[other], length) if number(time) < t]
                    self.assertEqual(found, sum(every))
                    counts = [crossing_counts(made, tables[other], length=length, since=frac(begin), until=frac(t))
                              for other in tables if other != name]
                    self.assertEqual(found, sum(forward - backward for forward, backward in counts))
                    self.assertEqual(found, rank_of(tables, name, frac(t), length=length)
                                     - rank_of(tables, name, frac(begin), length=length))

    def test_any_number_of_crossings(self):
        tables = {"a": table((0, 3), (1, 3 + 10 * HUGE)), "b": table((0, 5)), "c": table((0, -1), (1, -1 - 20 * HUGE))}
        self.assertEqual([rank_growth(tables, name, (1, 1), length=10) for name in "abc"],
                         [4 * HUGE, HUGE, -5 * HUGE])
        self.assertEqual(load_at(tables, "a", (1, 1), (1, 2), length=10), (3 + 12 * HUGE, 1))
        # c begins a lap behind, and its rank is 2 less 5 * HUGE.
        self.assertEqual(load_at(tables, "c", (1, 1), (1, 2), length=10), frac(-1 - Fraction(45, 2) * HUGE
                                                                              + 1 - Fraction(3, 2)))
        for k in range(3):
            self.assertEqual(body_at(tables, k, (1, 1), (1, 2), length=10),
                             frac(number(place_at(tables, k, (1, 1), length=10)) + Fraction(k, 2)))

    def test_twelve_loads(self):
        tables = {name: table((0, 2 * k), (7, 100 - 9 * k)) for k, name in enumerate(NAMES)}
        for length in [None, 30]:
            bodies = [number(body_at(tables, k, (6, 1), (3, 1), length=length)) for k in range(12)]
            self.assertTrue(all(two - one >= 3 for one, two in zip(bodies, bodies[1:])))
            places = {spot_number(number(load_at(tables, name, (6, 1), (3, 1), length=length)),
                                  length and length + 36) for name in tables}
            self.assertEqual(places, {spot_number(x, length and length + 36) for x in bodies})

    def test_errors(self):
        late = (-1, 1)
        for tables in [{}, None, {"a": A, "b": A}, {"A": A}] + ODD_VALUES:
            for call in self.calls(tables, "a", 0, late, 10):
                self.assertRaises(NoTrack, call)
        for length in [value for value in ODD_VALUES if value is not None]:
            for call in self.calls(None, "a", 0, late, length) + self.calls(LINE, "a", 0, late, length):
                self.assertRaises(NoTrack, call)
        for value in ODD_VALUES + [None, "c"]:
            body, load, growth = self.calls(LINE, value, value, late, None)
            if value != 0 or value is False:
                self.assertRaises(NoCarrier, body)
            for call in (load, growth):
                if value != "a":
                    with self.assertRaises(NoName) as caught:
                        call()
                    self.assertIs(caught.exception.name, value)
        for carrier in [-1, 2, 10 ** 40]:
            self.assertRaises(NoCarrier, self.calls(LINE, "a", carrier, late, None)[0])
        for call in self.calls(LINE, "a", 0, late, None):
            self.assertRaises(NoTime, call)

    def calls(self, tables, name, carrier, t, length):
        return [lambda: body_at(tables, carrier, t, (1, 1), length=length),
                lambda: load_at(tables, name, t, (1, 1), length=length),
                lambda: rank_growth(tables, name, t, length=length)]

    def test_arguments_stay(self):
        tables = dict(RING)
        body_at(tables, 0, (20, 1), (1, 1), length=10)
        load_at(tables, "c", (20, 1), (1, 1), length=10)
        rank_growth(tables, "c", (20, 1), length=10)
        self.assertEqual(list(tables.items()), list(RING.items()))


if __name__ == "__main__":
    unittest.main()
