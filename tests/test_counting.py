"""Items 8 and 9 of orders, play, counting and shares: counting, for any number of crossings."""

import inspect
import unittest
from fractions import Fraction

from helper import A, B, LINE, ODD_VALUES, RING, begin_number, frac, height, number, random_plays
from helper import slow_copies, slow_crossings, slow_moments, spot_number, table, times_of

from handedpast import counting
from handedpast.counting import held_at, holder_at, place_at, rank_of
from handedpast.errors import NoCarrier, NoName, NoTime, NoTrack
from handedpast.play import Play

HUGE = 10 ** 30
FUNCTIONS = {rank_of: "name", holder_at: "name", held_at: "carrier", place_at: "carrier"}


class ExamplesTest(unittest.TestCase):
    def test_examples(self):
        self.assertEqual(rank_of(RING, "c", (20, 1), length=10), 2)
        self.assertEqual(holder_at(RING, "c", (20, 1), length=10), 0)
        self.assertEqual(place_at(RING, 0, (20, 1), length=10), (10, 1))

    def test_interface(self):
        for function, word in FUNCTIONS.items():
            self.assertEqual(str(inspect.signature(function)), f"(tables, {word}, t, *, length=None)")
            self.assertEqual(function.__module__, "handedpast.counting")
            self.assertIn(function.__name__, counting.__dict__)

    def test_parameter_names(self):
        self.assertEqual(rank_of(tables=RING, name="c", t=(20, 1), length=10), 2)
        self.assertEqual(holder_at(tables=LINE, name="b", t=(3, 1), length=None), 0)
        self.assertEqual(held_at(length=10, t=(6, 1), carrier=0, tables=RING), "d")
        self.assertEqual(place_at(tables=LINE, carrier=1, t=(3, 1)), (3, 1))

    def test_arguments_stay(self):
        for length in [None, 10]:
            tables = dict(RING)
            rank_of(tables, "c", (5, 1), length=length)
            holder_at(tables, "c", (5, 1), length=length)
            held_at(tables, 1, (5, 1), length=length)
            place_at(tables, 1, (5, 1), length=length)
            self.assertEqual(list(tables.items()), list(RING.items()))


class RankTest(unittest.TestCase):
    """Item 8: ranks."""

    def test_line(self):
        self.assertEqual([rank_of(LINE, "a", (t, 1)) for t in range(5)], [0, 0, 0, 1, 1])
        self.assertEqual([rank_of(LINE, "b", (t, 1)) for t in range(5)], [1, 1, 1, 0, 0])
        tables = {"a": table((0, 0), (9, 9)), "b": table((0, 2)), "c": table((0, 5)), "d": table((0, -8))}
        self.assertEqual([rank_of(tables, "a", (t, 1)) for t in [0, 2, 3, 5, 6, 9, 99]], [1, 1, 2, 2, 3, 3, 3])

    def test_ring(self):
        self.assertEqual([rank_of(RING, "c", (t, 1), length=10) for t in [0, 5, 6, 15, 16, 20]], [0, 0, 1, 1, 2, 2])
        self.assertEqual([rank_of(RING, "d", (t, 1), length=10) for t in [0, 5, 6, 15, 16, 20]], [1, 1, 0, 0, -1, -1])
        # The index among the spots 7, 2 and 9, and not among the positions.
        tables = {"a": table((0, 17)), "b": table((0, 2)), "c": table((0, -1))}
        self.assertEqual([rank_of(tables, name, (5, 1), length=10) for name in "abc"], [1, 0, 2])
        self.assertEqual([rank_of(tables, name, (5, 1)) for name in "abc"], [2, 1, 0])
        self.assertEqual(rank_of({"a": table((0, 3), (1, HUGE))}, "a", (1, 1), length=1), 0)

    def test_together(self):
        tables = {"a": table((0, 0), (2, 2), (5, 2), (6, 3)), "b": table((0, 2))}
        for length in [None, 7]:
            self.assertEqual([rank_of(tables, "a", (t, 1), length=length) for t in [0, 2, 3, 5, 6, 7]],
                             [0, 0, 0, 0, 1, 1])

    def test_by_the_crossings(self):
        for tables, length, dice in random_plays(120, 51):
            begin = begin_number(tables)
            starts = sorted((spot_number(height(made, begin), length), name) for name, made in tables.items())
            t = dice.choice(times_of(tables, length))
            for index, (_, name) in enumerate(starts):
                others = [made for other, made in tables.items() if other != name]
                ways = [way for other in others for time, way in slow_crossings(tables[name], other, length)
                        if number(time) < t]
                self.assertEqual(rank_of(tables, name, frac(t), length=length), index + sum(ways))


class AnyNumberTest(unittest.TestCase):
    """Item 8: any number of crossings."""

    def test_one_goes_around(self):
        # Three rest at 3, 5 and 8; a goes around from 4 on, by very many laps.
        for way in [1, -1]:
            tables = {"a": table((0, 4), (1, 4 + way * 100 * HUGE)), "b": table((0, 3)), "c": table((0, 5)),
                      "d": table((0, 8))}
            for laps in [0, 1, 7, HUGE, HUGE + 1, 3 * HUGE + 2]:
                t = frac(Fraction(laps, 10 * HUGE))
                rank = 1 + way * 3 * laps
                self.assertEqual(rank_of(tables, "a", t, length=10), rank)
                self.assertEqual(holder_at(tables, "a", t, length=10), rank % 4)
                self.assertEqual([rank_of(tables, name, t, length=10) for name in "bcd"],
                                 [0 - way * laps, 2 - way * laps, 3 - way * laps])
                self.assertEqual(held_at(tables, rank % 4, t, length=10), "a")
                # The carriers share the laps: 4 laps of a bring each of them on by one lap.
                self.assertEqual([place_at(tables, k, t, length=10) for k in range(4)],
                                 [self.place_shared(k, way * laps) for k in range(4)])

    def place_shared(self, carrier, laps):
        """The place of a carrier after as many laps of a: that at which the carrier so much ahead began."""
        ahead = carrier + laps
        return ([3, 4, 5, 8][ahead % 4] + 10 * (ahead // 4), 1)

    def test_at_a_time_at_which_they_are_together(self):
        tables = {"a": table((0, 0), (1, 10 * HUGE), (3, 10 * HUGE), (4, 0)), "b": table((0, 5)), "c": table((0, 6))}
        for laps in [0, 1, 2, HUGE - 1]:
            at_b = frac(Fraction(5 + 10 * laps, 10 * HUGE))
            self.assertEqual(rank_of(tables, "a", at_b, length=10), 2 * laps)
            self.assertEqual(rank_of(tables, "b", at_b, length=10), 1 - laps)
            at_c = frac(Fraction(6 + 10 * laps, 10 * HUGE))
            self.assertEqual(rank_of(tables, "a", at_c, length=10), 2 * laps + 1)
            back = frac(3 + Fraction(4 + 10 * laps, 10 * HUGE))
            self.assertEqual(rank_of(tables, "a", back, length=10), 2 * (HUGE - laps))
        self.assertEqual(rank_of(tables, "a", (4, 1), length=10), 0)

    def test_all_together_after_many_laps(self):
        # All come to the spot 7 at 1, a from behind and c from ahead, and stay there.
        tables = {"a": table((0, 0), (1, 10 * HUGE + 7)), "b": table((0, 7)), "c": table((0, 8), (1, 7 - 10 * HUGE))}
        ranks = [rank_of(tables, name, (t, 1), length=10) for name in "abc" for t in (1, 2, HUGE)]
        self.assertEqual(ranks, [3 * HUGE] * 3 + [1] * 3 + [2 - 3 * HUGE] * 3)
        self.assertEqual([held_at(tables, k, (1, 1), length=10) for k in range(3)],
                         [name for _, name in sorted((rank % 3, name) for rank, name in zip(ranks[::3], "abc"))])
        self.assertEqual([place_at(tables, k, (1, 1), length=10) for k in range(3)], [(7, 1)] * 3)

    def test_numbers_of_sixty_digits(self):
        long = 10 ** 60 - 1
        tables = {"a": table((0, 0), (1, long)), "b": table((0, Fraction(1, 2)))}
        self.assertEqual(rank_of(tables, "a", (1, 1), length=1), long)
        self.assertEqual(holder_at(tables, "a", (1, 1), length=1), 1)
        self.assertEqual(place_at(tables, 0, (1, 1), length=1), (long, 2))
        self.assertEqual(place_at(tables, 1, (1, 1), length=1), frac(Fraction(long + 1, 2)))
        self.assertEqual(held_at(tables, 1, (1, 1)), "a")

    def test_agree_with_each_other(self):
        for tables, length, dice in random_plays(60, 52):
            if length is None:
                continue
            fast = {name: made.scaled((10 ** 35 * length + 1, 1)) for name, made in tables.items()}
            spots = {height(made, begin_number(fast)) % length for made in fast.values()}
            if len(spots) < len(fast):
                continue
            t = frac(dice.choice([begin_number(fast) + Fraction(dice.randint(0, 40), 8)]))
            total = 0
            for name in fast:
                rank = rank_of(fast, name, t, length=length)
                total += rank
                holder = holder_at(fast, name, t, length=length)
                self.assertEqual(holder, rank % len(fast))
                self.assertEqual(held_at(fast, holder, t, length=length), name)
                place = number(place_at(fast, holder, t, length=length))
                self.assertEqual((place - height(fast[name], number(t))) % length, 0)
            self.assertEqual(total, len(fast) * (len(fast) - 1) // 2)
            places = [number(place_at(fast, k, t, length=length)) for k in range(len(fast))]
            self.assertEqual(places, sorted(places))
            self.assertLessEqual(places[-1] - places[0], length)


class AgreeTest(unittest.TestCase):
    """Item 8: the same as Play."""

    def test_as_play(self):
        for tables, length, dice in random_plays(150, 53):
            moments = slow_moments(tables, length)
            simulation = Play(tables, length=length)
            times = times_of(tables, length)
            for t in dice.sample(times, min(len(times), 6)):
                copies = slow_copies(moments, t)
                t = frac(t)
                for carrier, (name, _) in enumerate(copies):
                    self.assertEqual(held_at(tables, carrier, t, length=length), name)
                    self.assertEqual(holder_at(tables, name, t, length=length), carrier)
                    self.assertEqual(simulation.held(carrier, t), name)
                    self.assertEqual(simulation.holder(name, t), carrier)
                    self.assertEqual(place_at(tables, carrier, t, length=length), simulation.place(carrier, t))

    def test_twelve(self):
        tables = {name: table((0, k), (5, k + 3 * (k * 7 % 13)), (9, k * 5 % 12))
                  for k, name in enumerate("abcdefghijkl")}
        for length in [None, 12]:
            simulation = Play(tables, length=length)
            for t in [(0, 1), (1, 1), (10, 3), (5, 1), (6, 1), (9, 1), (50, 1)]:
                self.assertEqual([held_at(tables, k, t, length=length) for k in range(12)],
                                 [simulation.held(k, t) for k in range(12)])
                self.assertEqual([place_at(tables, k, t, length=length) for k in range(12)],
                                 [simulation.place(k, t) for k in range(12)])


class ErrorsTest(unittest.TestCase):
    """Item 9."""

    def test_no_track(self):
        lengths = [value for value in ODD_VALUES if value is not None]
        thirteen = {name: table((0, k)) for k, name in enumerate("abcdefghijklm")}
        wrong_tables = ODD_VALUES + [None, thirteen, {"a": A, "b": A}, {"a": A, "b": B.later((1, 1))}, {"A": A},
                                     {"a": A, 1: B}, {"a": A.knots()}, [("a", A)]]
        for function in FUNCTIONS:
            for what, t in [("a", (1, 1)), (0, (1, 1)), (None, (-1, 1)), ([], (-1, 1))]:
                for length in lengths:
                    with self.assertRaises(NoTrack, msg=length):
                        function(LINE, what, t, length=length)
                for tables in wrong_tables:
                    for length in [None, 30]:
                        with self.assertRaises(NoTrack, msg=tables):
                            function(tables, what, t, length=length)
        for function in FUNCTIONS:
            with self.assertRaises(NoTrack):
                function({"a": A, "b": table((0, 30))}, 0, (1, 1), length=10)

    def test_no_name(self):
        for function in [rank_of, holder_at]:
            for name in ODD_VALUES + ["c", "ab", None, 1, ["a"]]:
                if name == "a":
                    continue
                for t in [(1, 1), (-1, 1)]:
                    for length in [None, 10]:
                        with self.assertRaises(NoName, msg=name) as caught:
                            function(LINE, name, t, length=length)
                        self.assertEqual(caught.exception.name, name)

    def test_no_carrier(self):
        wrong = [value for value in ODD_VALUES if value != 0 or value is False] + [2, 3, -1, 10 ** 59, "a", None]
        for function in [held_at, place_at]:
            for carrier in wrong:
                for t in [(1, 1), (-1, 1)]:
                    for length in [None, 10]:
                        with self.assertRaises(NoCarrier, msg=carrier):
                            function(LINE, carrier, t, length=length)

    def test_no_time(self):
        for function, word in FUNCTIONS.items():
            what = "a" if word == "name" else 1
            late = {"a": A.later((1, 1)), "b": B.later((1, 1))}
            for tables, t in [(LINE, (-1, 1)), (LINE, (-1, 10 ** 50)), (late, (0, 1))]:
                for length in [None, 10]:
                    with self.assertRaises(NoTime):
                        function(tables, what, t, length=length)
            function(LINE, what, (0, 1))

    def test_no_time_alone(self):
        for function, word in FUNCTIONS.items():
            for length in [None, 10]:
                for t in [(-1, 1), (-1, 10 ** 50)]:
                    with self.assertRaises(NoTime):
                        function({"a": A}, "a" if word == "name" else 0, t, length=length)


if __name__ == "__main__":
    unittest.main()
