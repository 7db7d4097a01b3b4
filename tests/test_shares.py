"""Items 10 and 11 of orders, play, counting and shares: how the carriers of a ring share the laps."""

import inspect
import unittest
from fractions import Fraction

from helper import A, B, LINE, ODD_VALUES, RING, begin_number, frac, height, number, random_plays
from helper import slow_moments, slow_copies, table, times_of

from handedpast import shares
from handedpast.counting import place_at
from handedpast.errors import NoCarrier, NoTime, NoTrack
from handedpast.shares import displaced, shared, spread, walked_by

HUGE = 10 ** 30
WITH_CARRIER = [displaced, walked_by]
WITHOUT = [spread, shared]


def way_by_moments(tables, carrier, t, length):
    """The displacement and the distance of a carrier at the number t, along slow moments."""
    moments = slow_moments(tables, length)
    stops = sorted({start for start, _ in moments if start < t} | {begin_number(tables), t})
    shift, way = 0, 0
    for start, end in zip(stops, stops[1:]):
        name = slow_copies(moments, (start + end) / 2)[carrier][0]
        step = height(tables[name], end) - height(tables[name], start)
        shift, way = shift + step, way + abs(step)
    return frac(shift), frac(way)


class ExamplesTest(unittest.TestCase):
    def test_examples(self):
        self.assertEqual(displaced(RING, 1, (20, 1), 10), (10, 1))
        self.assertEqual(spread(RING, (5, 1), 10), (5, 1))
        self.assertEqual(shared(RING, (20, 1), 10), 2)
        self.assertIsNone(shared(RING, (19, 1), 10))

    def test_interface(self):
        for function in WITH_CARRIER + WITHOUT:
            word = "carrier, " if function in WITH_CARRIER else ""
            self.assertEqual(str(inspect.signature(function)), f"(tables, {word}t, length)")
            self.assertEqual(function.__module__, "handedpast.shares")
            self.assertIn(function.__name__, shares.__dict__)

    def test_parameter_names(self):
        self.assertEqual(displaced(tables=RING, carrier=1, t=(20, 1), length=10), (10, 1))
        self.assertEqual(walked_by(length=10, tables=RING, t=(6, 1), carrier=0), (5, 1))
        self.assertEqual(spread(length=10, t=(5, 1), tables=RING), (5, 1))
        self.assertEqual(shared(tables=RING, t=(20, 1), length=10), 2)

    def test_arguments_stay(self):
        tables = dict(RING)
        for function in WITH_CARRIER:
            function(tables, 1, (17, 1), 10)
        for function in WITHOUT:
            function(tables, (20, 1), 10)
        self.assertEqual(list(tables.items()), list(RING.items()))


class SharesTest(unittest.TestCase):
    """Item 10."""

    def test_displaced(self):
        self.assertEqual([displaced(RING, 0, (t, 1), 10) for t in [0, 5, 10, 15, 20, 99]],
                         [(0, 1), (5, 1), (5, 1), (5, 1), (10, 1), (10, 1)])
        back = {"c": table((0, 20), (25, -5)), "d": table((0, 5))}
        self.assertEqual([displaced(back, 0, (t, 1), 10) for t in [0, 5, 15, 25]],
                         [(0, 1), (-5, 1), (-5, 1), (-15, 1)])
        self.assertEqual([displaced(back, 1, (t, 1), 10) for t in [0, 5, 15, 25]],
                         [(0, 1), (0, 1), (-10, 1), (-10, 1)])

    def test_walked_by(self):
        tables = {"a": table((0, 0), (3, 3), (6, 0)), "b": table((0, 2))}
        # Carrier 0 goes to 2, waits while a is ahead, and goes back; carrier 1 goes from 2 to 3 and back.
        self.assertEqual([walked_by(tables, 0, (t, 1), 10) for t in [0, 2, 3, 4, 5, 6, 7]],
                         [(0, 1), (2, 1), (2, 1), (2, 1), (3, 1), (4, 1), (4, 1)])
        self.assertEqual([walked_by(tables, 1, (t, 2), 10) for t in [0, 4, 5, 6, 7, 8, 9, 40]],
                         [(0, 1), (0, 1), (1, 2), (1, 1), (3, 2), (2, 1), (2, 1), (2, 1)])
        self.assertEqual(displaced(tables, 1, (20, 1), 10), (0, 1))
        self.assertEqual(walked_by({"a": table((0, 0), (1, 7), (2, -7))}, 0, (2, 1), 3), (21, 1))

    def test_two_thousand_crossings(self):
        tables = {"a": table((0, 0), (1, 10 * 2000)), "b": table((0, 5))}
        self.assertEqual([walked_by(tables, k, (1, 1), 10) for k in range(2)], [(10000, 1), (10000, 1)])

    def test_spread(self):
        self.assertEqual([spread(RING, (t, 1), 10) for t in [0, 3, 5, 8, 10, 15, 20]],
                         [(0, 1), (3, 1), (5, 1), (2, 1), (0, 1), (5, 1), (0, 1)])
        self.assertEqual(spread({"a": table((0, 0), (1, HUGE))}, (1, 1), 7), (0, 1))
        almost = {"a": table((0, 0), (1, Fraction(999, 100))), "b": table((0, Fraction(9991, 1000)))}
        self.assertEqual(spread(almost, (1, 1), 10), (999, 100))

    def test_shared(self):
        self.assertEqual([shared(RING, (t, 2), 10) for t in [0, 10, 20, 30, 39, 40, 41]],
                         [0, None, 1, None, None, 2, 2])
        swap = {"a": table((0, 0), (1, 3)), "b": table((0, 3), (1, 0)), "c": table((0, 7))}
        self.assertEqual(shared(swap, (1, 1), 10), 0)
        around = {"a": table((0, 0), (1, 3)), "b": table((0, 3), (1, 7)), "c": table((0, 7), (1, 10))}
        self.assertEqual(shared(around, (1, 1), 10), 1)
        other = {"a": table((0, 20), (1, 3)), "b": table((0, 3), (1, -3)), "c": table((0, 7), (1, 0))}
        self.assertEqual(shared(other, (1, 1), 10), -3)
        self.assertEqual(shared({"a": table((0, 0), (1, 2))}, (1, 1), 2), 1)
        self.assertIsNone(shared({"a": table((0, 0), (1, 3))}, (1, 1), 2))

    def test_two_at_one_spot(self):
        two = {"a": table((0, 0), (1, 5)), "b": table((0, 5))}
        self.assertIsNone(shared(two, (1, 1), 10))
        two = {"a": table((0, 0), (1, 15)), "b": table((0, 5), (1, 0)), "c": table((0, 7), (1, 5))}
        self.assertIsNone(shared(two, (1, 1), 10))
        two = {"a": table((0, 0), (1, 0)), "b": table((0, 5), (1, 0)), "c": table((0, 7), (1, 5))}
        self.assertIsNone(shared(two, (1, 1), 10))

    def test_any_number_of_laps(self):
        tables = {"a": table((0, 4), (1, 4 + 100 * HUGE)), "b": table((0, 3)), "c": table((0, 8))}
        for laps in [1, HUGE, 10 * HUGE - 1]:
            t = frac(Fraction(laps, 10 * HUGE))
            self.assertEqual(shared(tables, t, 10), laps)
            self.check_shared(tables, t, 10)
            self.assertLess(number(spread(tables, t, 10)), 10)
        self.assertEqual(sum(number(displaced(tables, k, (1, 1), 10)) for k in range(3)), 100 * HUGE)

    def check_shared(self, tables, t, length):
        """Whether each carrier ends where the carrier T places ahead of it began."""
        many = len(tables)
        laps = shared(tables, t, length)
        begin = frac(begin_number(tables))
        starts = [number(place_at(tables, k, begin, length=length)) for k in range(many)]
        for k in range(many):
            turns, ahead = divmod(k + laps, many)
            self.assertEqual(number(place_at(tables, k, t, length=length)), starts[ahead] + turns * length)

    def test_ends_on_the_spots(self):
        many = 0
        for tables, length, dice in random_plays(250, 61):
            if length is None or len(tables) == 1:
                continue
            # All loads are led to each other's spots, some laps away.
            end = max(number(made.knots()[-1][0]) for made in tables.values()) + 1
            places = [height(made, begin_number(tables)) for made in tables.values()]
            laps = [dice.randint(-3, 3) for _ in places]
            ends = [x + lap * length for x, lap in zip(dice.sample(places, len(places)), laps)]
            led = {name: table(*[(number(t), number(x)) for t, x in made.knots()], (end, x))
                   for (name, made), x in zip(tables.items(), ends)}
            self.assertEqual(shared(led, frac(end), length), sum(laps))
            self.check_shared(led, frac(end), length)
            many += 1
        self.assertGreater(many, 80)

    def test_against_a_slow_way(self):
        for tables, length, dice in random_plays(200, 62):
            if length is None:
                continue
            t = dice.choice(times_of(tables, length))
            ways = [way_by_moments(tables, k, t, length) for k in range(len(tables))]
            self.assertEqual([displaced(tables, k, frac(t), length) for k in range(len(tables))],
                             [shift for shift, _ in ways])
            self.assertEqual([walked_by(tables, k, frac(t), length) for k in range(len(tables))],
                             [way for _, way in ways])
            shifts = [number(shift) for shift, _ in ways]
            self.assertEqual(spread(tables, frac(t), length), frac(max(shifts) - min(shifts)))
            self.assertLess(max(shifts) - min(shifts), length)
            begin = begin_number(tables)
            loads = [height(made, t) - height(made, begin) for made in tables.values()]
            self.assertEqual(sum(shifts), sum(loads))
            walks = [number(made.walked(frac(begin), frac(t))) for made in tables.values()]
            self.assertEqual(sum(number(way) for _, way in ways), sum(walks))
            spots = [sorted(height(made, u) % length for made in tables.values()) for u in (begin, t)]
            laps = sum(loads) / length if spots[0] == spots[1] else None
            self.assertEqual(shared(tables, frac(t), length), laps)
            self.assertIn(type(shared(tables, frac(t), length)), (int, type(None)))


class ErrorsTest(unittest.TestCase):
    """Item 11."""

    def calls(self, tables, carrier, t, length):
        """All four functions as functions of nothing."""
        for function in WITH_CARRIER:
            yield lambda: function(tables, carrier, t, length)
        for function in WITHOUT:
            yield lambda: function(tables, t, length)

    def test_no_track(self):
        for length in ODD_VALUES + [None]:
            for carrier, t in [(0, (1, 1)), (7, (-1, 1)), (None, (1, 1))]:
                for call in self.calls(LINE, carrier, t, length):
                    with self.assertRaises(NoTrack, msg=length):
                        call()
        thirteen = {name: table((0, k)) for k, name in enumerate("abcdefghijklm")}
        for tables in ODD_VALUES + [None, thirteen, {"a": A, "b": A}, {"a": A, "b": B.later((1, 1))}, {"A": A},
                                    {"a": A, 1: B}, {"a": A.knots()}, {"a": A, "b": table((0, 30))}]:
            for carrier, t in [(0, (1, 1)), (7, (-1, 1))]:
                for call in self.calls(tables, carrier, t, 30):
                    with self.assertRaises(NoTrack, msg=tables):
                        call()

    def test_no_carrier(self):
        for carrier in [value for value in ODD_VALUES if value != 0 or value is False] + [2, 3, -1, None, "a"]:
            for t in [(1, 1), (-1, 1)]:
                for function in WITH_CARRIER:
                    with self.assertRaises(NoCarrier, msg=carrier):
                        function(RING, carrier, t, 10)

    def test_no_time(self):
        for t in [(-1, 1), (-1, 10 ** 50)]:
            for call in self.calls(RING, 1, t, 10):
                with self.assertRaises(NoTime):
                    call()
        for call in self.calls(RING, 1, (0, 1), 10):
            call()
        # Also where there is nothing else to compare a load with.
        for call in self.calls({"a": A}, 0, (-1, 10 ** 50), 10):
            with self.assertRaises(NoTime):
                call()


if __name__ == "__main__":
    unittest.main()
