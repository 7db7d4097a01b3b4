"""Items 3 to 7 of orders, play, counting and shares: the simulation."""

import inspect
import unittest
from fractions import Fraction
from itertools import permutations

from helper import A, B, C, LINE, ODD_VALUES, RING, begin_number, first, frac, height, number, random_plays
from helper import slow_copies, slow_moments, spot_number, table, times_of

from handedpast import play
from handedpast.errors import NoCarrier, NoName, NoTime, NoTrack
from handedpast.play import Play

HUGE = 10 ** 30
REST = table((0, 0))
LETTERS = "abcdefghijklmnopqrstuvwxyz"
# Values of every kind that are no carriers of LINE, besides 0 and 1.
NO_CARRIERS = [value for value in ODD_VALUES if value != 0 or value is False] + [2, 10 ** 59, "0", (0, 1)]


def held(simulation, many, t):
    """What the carriers hold, in their order, joined by spaces."""
    return " ".join(simulation.held(carrier, t) for carrier in range(many))


def loads(many):
    """As many loads that rest one behind the other."""
    return {LETTERS[k]: table((0, k)) for k in range(many)}


class ExamplesTest(unittest.TestCase):
    def test_examples(self):
        self.assertEqual(Play(LINE).holder("a", (2, 1)), 0)
        self.assertEqual(Play(LINE).holder("a", (3, 1)), 1)
        self.assertEqual(list(Play(LINE).handovers()), [((2, 1), (2, 1), (0, 1), ("b", "a"))])
        back = table((0, 4), (4, 0))
        self.assertEqual(list(Play({"a": A, "b": B, "c": back}).handovers()),
                         [((2, 1), (2, 1), (0, 1, 2), ("c", "b", "a"))])
        ring = {"e": table((0, 9), (4, 13)), "f": table((0, 1))}
        self.assertEqual(list(Play(ring, length=10).handovers()), [((2, 1), (1, 1), (1, 0), ("f", "e"))])
        self.assertEqual(Play(LINE).spells(0, (4, 1)), [((0, 1), (2, 1), "a"), ((2, 1), (4, 1), "b")])
        self.assertEqual(Play(RING, length=10).place(1, (20, 1)), (15, 1))

    def test_interface(self):
        self.assertEqual(str(inspect.signature(Play)), "(tables, *, length=None)")
        wanted = {"holder": "(self, name, t)", "held": "(self, carrier, t)", "place": "(self, carrier, t)",
                  "handovers": "(self, since=None)", "spells": "(self, carrier, until)"}
        for name, signature in wanted.items():
            self.assertEqual(str(inspect.signature(Play.__dict__[name])), signature)
        self.assertEqual(Play.__module__, "handedpast.play")
        self.assertIn("Play", play.__dict__)

    def test_parameter_names(self):
        simulation = Play(tables=RING, length=10)
        self.assertEqual(simulation.holder(name="c", t=(6, 1)), 1)
        self.assertEqual(simulation.held(carrier=0, t=(6, 1)), "d")
        self.assertEqual(simulation.place(carrier=1, t=(6, 1)), (6, 1))
        self.assertEqual(simulation.spells(carrier=0, until=(5, 1)), [((0, 1), (5, 1), "c")])
        self.assertEqual(list(simulation.handovers(since=(6, 1))), [((15, 1), (5, 1), (1, 0), ("d", "c"))])
        self.assertEqual(Play(LINE, length=None).holder("b", (4, 1)), 0)


class TablesTest(unittest.TestCase):
    """Item 3."""

    def test_accepted(self):
        for many in [1, 2, 11, 12]:
            for length in [None, 12, 10 ** 60 - 1]:
                self.assertEqual(held(Play(loads(many), length=length), many, (0, 1)), " ".join(LETTERS[:many]))
        for name in ["a", "z", "azazazaz", "handed"]:
            self.assertEqual(Play({name: A}).held(0, (9, 1)), name)
        # Further knots may be at any times.
        self.assertEqual(held(Play({"a": table((-5, 3), (0, 1)), "b": table((-5, 2), (7, 1))}), 2, (-5, 1)), "b a")

    def test_numbers_of_loads(self):
        for tables in [{}, loads(13), loads(20)]:
            for length in [None, 30]:
                with self.assertRaises(NoTrack):
                    Play(tables, length=length)

    def test_any_value(self):
        for wrong in ODD_VALUES + [1, None, [("a", A)], (("a", A),), A, [A], "ab", LETTERS]:
            for length in [None, 30]:
                with self.assertRaises(NoTrack, msg=wrong):
                    Play(wrong, length=length)

    def test_keys_must_be_names(self):
        keys = ["", "A", "aB", "abcdefghi", "a b", "a1", "a_", "\u00e4", "\u0430", "a\n", " a", 1, 0, True, None,
                (), ("a",), (1, 2), -1]
        for key in keys:
            for tables in [{key: A}, {"b": B, key: A}, {key: A, "b": B}]:
                with self.assertRaises(NoTrack, msg=key):
                    Play(tables)

    def test_values_must_be_timetables(self):
        for value in ODD_VALUES + [1, None, A.knots(), tuple(A.knots()), "0:0 4:4"]:
            for tables in [{"a": value}, {"b": B, "a": value}, {"a": value, "b": B}]:
                with self.assertRaises(NoTrack, msg=value):
                    Play(tables, length=10)

    def test_one_begin(self):
        for other in [table((1, 7)), table((-1, 7)), table((Fraction(1, 100), 7)), table((-4, 0), (0, 7))]:
            for tables in [{"a": A, "b": B, "c": other}, {"c": other, "a": A}]:
                for length in [None, 10]:
                    with self.assertRaises(NoTrack):
                        Play(tables, length=length)

    def test_different_spots(self):
        for tables in [{"a": A, "b": table((0, 0))}, {"a": A, "b": B, "c": table((0, 2), (1, 1))}]:
            for length in [None, 10]:
                with self.assertRaises(NoTrack):
                    Play(tables, length=length)
        for laps in [1, -1, 5, 10 ** 58]:
            tables = {"a": A, "b": B, "c": table((0, 2 + 10 * laps))}
            with self.assertRaises(NoTrack):
                Play(tables, length=10)
            self.assertEqual(Play(tables).holder("c", (0, 1)), 0 if laps < 0 else 2)
            Play(tables, length=11 if laps != 10 ** 58 else 10 ** 59 + 1)

    def test_length(self):
        for length in [value for value in ODD_VALUES if value is not None]:
            for tables in [LINE, RING, {}, None, loads(13)]:
                with self.assertRaises(NoTrack, msg=length):
                    Play(tables, length=length)

    def test_keeps_what_it_was_given(self):
        for length in [None, 10]:
            tables = dict(LINE)
            simulation = Play(tables, length=length)
            self.assertEqual(list(tables.items()), list(LINE.items()))
            tables["a"] = B
            del tables["b"]
            tables[7] = None
            self.assertEqual(simulation.holder("a", (3, 1)), 1)
            self.assertEqual(simulation.spells(0, (4, 1)), [((0, 1), (2, 1), "a"), ((2, 1), (4, 1), "b")])
            with self.assertRaises(NoName):
                simulation.holder(7, (3, 1))

    def test_any_number_of_crossings(self):
        fast = {"a": table((0, 0), (1, HUGE)), "b": table((0, Fraction(1, 2))), "c": table((0, 1), (7, -HUGE))}
        simulation = Play(fast, length=3)
        self.assertEqual(simulation.held(1, frac(Fraction(1, HUGE * 10))), "b")
        self.assertEqual(simulation.place(0, (0, 1)), (0, 1))


class HoldingTest(unittest.TestCase):
    """Item 4."""

    def test_numbers_of_carriers(self):
        tables = {"a": table((0, 5)), "b": table((0, -3)), "c": table((0, 14)), "d": table((0, -19))}
        for some in permutations(tables.items()):
            self.assertEqual(held(Play(dict(some)), 4, (0, 1)), "d b a c")
            # On the ring they start at the spots 5, 7, 4 and 1.
            self.assertEqual(held(Play(dict(some), length=10), 4, (0, 1)), "d c a b")

    def test_places_begin_at_the_spots(self):
        tables = {"a": table((0, 5)), "b": table((0, -3)), "c": table((0, 14)), "d": table((0, -19))}
        self.assertEqual([Play(tables, length=10).place(k, (7, 1)) for k in range(4)], [(1, 1), (4, 1), (5, 1), (7, 1)])
        self.assertEqual([Play(tables).place(k, (7, 1)) for k in range(4)], [(-19, 1), (-3, 1), (5, 1), (14, 1)])
        self.assertEqual(Play({"a": table((0, Fraction(-1, 3)))}, length=2).place(0, (0, 1)), (5, 3))
        self.assertEqual(Play({"a": table((0, HUGE * 3 + 2))}, length=3).place(0, (0, 1)), (2, 1))

    def test_exchanged_just_after(self):
        simulation = Play(LINE)
        self.assertEqual([simulation.holder("a", frac(t)) for t in [0, 1, 2, 2 + Fraction(1, HUGE), 3, 99]],
                         [0, 0, 0, 1, 1, 1])
        self.assertEqual([simulation.held(0, frac(t)) for t in [0, 2, Fraction(21, 10), 99]], ["a", "a", "b", "b"])
        self.assertEqual([simulation.place(0, (t, 1)) for t in range(6)],
                         [(0, 1), (1, 1), (2, 1), (2, 1), (2, 1), (2, 1)])
        self.assertEqual([simulation.place(1, (t, 1)) for t in range(6)],
                         [(2, 1), (2, 1), (2, 1), (3, 1), (4, 1), (4, 1)])

    def test_as_long_as_they_are_together(self):
        tables = {"a": table((0, 0), (2, 2), (5, 2), (6, 3)), "b": B, "c": table((0, 5), (3, 2), (5, 2), (7, -2))}
        simulation = Play(tables)
        for t in [0, 1, 2, 3, 4, 5]:
            self.assertEqual(held(simulation, 3, (t, 1)), "a b c")
        for t in [Fraction(51, 10), 6, 7, 8]:
            self.assertEqual(held(simulation, 3, frac(t)), "c b a")

    def test_around_the_ring(self):
        simulation = Play(RING, length=10)
        self.assertEqual([held(simulation, 2, (t, 1)) for t in [0, 5, 6, 15, 16, 99]],
                         ["c d", "c d", "d c", "d c", "c d", "c d"])
        self.assertEqual([simulation.place(0, (t, 1)) for t in [0, 4, 5, 6, 15, 16, 20]],
                         [(0, 1), (4, 1), (5, 1), (5, 1), (5, 1), (6, 1), (10, 1)])
        self.assertEqual([simulation.place(1, (t, 1)) for t in [0, 5, 6, 15, 16, 20]],
                         [(5, 1), (5, 1), (6, 1), (15, 1), (15, 1), (15, 1)])

    def test_alone(self):
        simulation = Play({"c": C.moved((-33, 1))}, length=10)
        self.assertEqual([simulation.place(0, (t, 1)) for t in [0, 3, 10, 20, 50]],
                         [(7, 1), (10, 1), (17, 1), (27, 1), (27, 1)])
        self.assertEqual(simulation.holder("c", (15, 1)), 0)

    def test_begin(self):
        tables = {"a": table((-7, 1), (-6, 2), (-5, 0)), "b": table((-7, Fraction(3, 2)))}
        simulation = Play(tables)
        self.assertEqual([held(simulation, 2, (t, 2)) for t in [-14, -13, -12, -11, -10, -9]],
                         ["a b", "a b", "b a", "a b", "a b", "a b"])
        self.assertEqual(held(simulation, 2, (-23, 4)), "b a")

    def test_asked_in_any_order(self):
        times = [frac(Fraction(t, 4)) for t in range(90)]
        wanted = [held(Play(RING, length=10), 2, t) for t in times]
        simulation = Play(RING, length=10)
        for k in list(range(89, -1, -1)) + [5, 80, 6, 70]:
            self.assertEqual(held(simulation, 2, times[k]), wanted[k])

    def test_against_a_slow_way(self):
        for tables, length, dice in random_plays(150, 41):
            moments = slow_moments(tables, length)
            simulation = Play(tables, length=length)
            times = times_of(tables, length)
            for t in dice.sample(times, min(len(times), 12)):
                copies = slow_copies(moments, t)
                places = [height(tables[name], t) + lap * (length or 0) for name, lap in copies]
                for carrier, (name, _) in enumerate(copies):
                    self.assertEqual(simulation.held(carrier, frac(t)), name)
                    self.assertEqual(simulation.holder(name, frac(t)), carrier)
                    self.assertEqual(simulation.place(carrier, frac(t)), frac(places[carrier]))


def slow_handovers(tables, length):
    """All handovers, by looking at each moment at which of the carriers are at one spot."""
    moments = slow_moments(tables, length)
    found = []
    for (_, before), (t, after) in zip(moments[:1] + moments, moments):
        spots = {}
        for carrier, (name, lap) in enumerate(before):
            place = height(tables[name], t) + lap * (length or 0)
            spot = spot_number(place, length)
            # Of the carriers at a spot those that have come further around are behind the others.
            turns = (place - spot) / length if length else 0
            spots.setdefault(spot, []).append((-turns, carrier))
        for spot in sorted(spots):
            carriers = [carrier for _, carrier in sorted(spots[spot])]
            names = [after[carrier][0] for carrier in carriers]
            if names != [before[carrier][0] for carrier in carriers]:
                found.append((frac(t), frac(spot), tuple(carriers), tuple(names)))
    return found


class HandoversTest(unittest.TestCase):
    """Item 5."""

    def check(self, tables, wanted, **more):
        for some in permutations(tables.items()):
            self.assertEqual(list(Play(dict(some), **more).handovers()), wanted)

    def test_from_since_on(self):
        simulation = Play(RING, length=10)
        wanted = [((5, 1), (5, 1), (0, 1), ("d", "c")), ((15, 1), (5, 1), (1, 0), ("d", "c"))]
        for since, many in [(None, 2), ((0, 1), 2), ((4, 1), 2), ((5, 1), 2), ((51, 10), 1), ((15, 1), 1),
                            ((151, 10), 0), ((99, 1), 0)]:
            self.assertEqual(list(simulation.handovers(since)), wanted[2 - many:])
        self.assertEqual(list(simulation.handovers()), wanted)

    def test_touching(self):
        self.check({"a": table((0, 0), (2, 2), (4, 0)), "b": B}, [])
        self.check({"a": table((0, 0), (2, 2), (4, 0)), "b": B, "c": table((0, 4), (2, 2), (3, 3))}, [], length=9)
        self.check({"a": table((0, 0), (2, 2), (4, 2)), "b": B}, [])

    def test_a_contact_that_lasts(self):
        self.check({"a": table((0, 0), (2, 2), (5, 2), (6, 3)), "b": B}, [((5, 1), (2, 1), (0, 1), ("b", "a"))])
        self.check({"a": table((0, 0), (2, 2), (5, 2), (6, 1)), "b": B}, [])
        # They go on together, and part elsewhere.
        tables = {"a": table((0, 0), (2, 2), (5, 17), (6, 18)), "b": table((0, 2), (2, 2), (5, 17))}
        self.check(tables, [((5, 1), (17, 1), (0, 1), ("b", "a"))])
        self.check(tables, [((5, 1), (7, 1), (0, 1), ("b", "a"))], length=10)
        for since in [(2, 1), (3, 1), (5, 1)]:
            self.assertEqual(list(Play(tables).handovers(since)), [((5, 1), (17, 1), (0, 1), ("b", "a"))])
        self.assertEqual(list(Play(tables).handovers((51, 10))), [])

    def test_all_carriers_at_the_spot(self):
        # a and c leave at one pace, and stay together.
        self.check({"a": A, "b": B, "c": table((0, 4), (2, 2), (4, 4))}, [((2, 1), (2, 1), (0, 1, 2), ("b", "a", "c"))])
        # Only the foremost two exchange what they hold.
        tables = {"a": table((0, 0), (2, 2), (4, 0)), "b": B, "c": table((0, 4), (4, 0)), "d": table((0, 9))}
        self.check(tables, [((2, 1), (2, 1), (0, 1, 2), ("a", "c", "b"))])

    def test_one_joins_a_contact(self):
        tables = {"a": table((0, 0), (2, 2), (9, 2)), "b": B, "c": table((0, 5), (3, 2), (6, -1))}
        self.check(tables, [((3, 1), (2, 1), (0, 1, 2), ("c", "a", "b"))])
        for since in [(2, 1), (3, 1)]:
            self.assertEqual(len(list(Play(tables).handovers(since))), 1)

    def test_several_spots_at_one_time(self):
        tables = {"a": table((0, 10), (4, 14)), "b": table((0, 12)), "c": A, "d": B,
                  "e": table((0, -3), (4, -7)), "f": table((0, -5))}
        wanted = [((2, 1), (-5, 1), (0, 1), ("e", "f")), ((2, 1), (2, 1), (2, 3), ("d", "c")),
                  ((2, 1), (12, 1), (4, 5), ("b", "a"))]
        self.assertEqual(list(Play(tables).handovers()), wanted)
        self.assertEqual(list(Play(dict(reversed(tables.items()))).handovers()), wanted)
        # On a ring a and b meet at 11, which is the spot 1, and so before c and d at 5.
        tables = {"a": table((0, 9), (4, 13)), "b": table((0, 1)), "c": table((0, 3), (2, 5), (4, 7)),
                  "d": table((0, 5))}
        wanted = [((2, 1), (1, 1), (3, 0), ("b", "a")), ((2, 1), (5, 1), (1, 2), ("d", "c"))]
        self.check(tables, wanted, length=10)

    def test_all_at_one_spot_of_a_ring(self):
        tables = {"a": table((0, 0), (1, 7), (2, 8)), "b": table((0, 5), (1, 7), (2, 7)),
                  "c": table((0, 8), (1, 7), (2, 5))}
        # All come to 7 without passing the start: the order is 0, 1, 2.
        self.check(tables, [((1, 1), (7, 1), (0, 1, 2), ("c", "b", "a"))], length=10)
        # c comes to -2, so that its copy at 8 is ahead of the others, and that at -2 behind them.
        tables = {"a": table((0, 0), (1, -2), (2, -2)), "b": table((0, 5), (1, 8), (2, 9)),
                  "c": table((0, 9), (1, 8), (2, 6))}
        self.check(tables, [((1, 1), (8, 1), (1, 2, 0), ("c", "a", "b"))], length=10)
        tables = {"a": table((0, 0), (1, 2), (2, 3)), "b": table((0, 5), (1, 12), (2, 14)),
                  "c": table((0, 9), (1, 12), (2, 12))}
        self.check(tables, [((1, 1), (2, 1), (1, 2, 0), ("c", "a", "b"))], length=10)

    def test_many_laps_later_the_first_ones_come(self):
        tables = {"a": table((0, 0), (1, 10 ** 41)), "b": table((0, 5))}
        wanted = [(frac(Fraction(5 + 10 * k, 10 ** 41)), (5, 1), (k % 2, 1 - k % 2), ("b", "a")) for k in range(50)]
        simulation = Play(tables, length=10)
        self.assertEqual(first(simulation.handovers(), 50), wanted)
        self.assertEqual(first(simulation.handovers(wanted[7][0]), 20), wanted[7:27])
        self.assertEqual(simulation.held(0, wanted[3][0]), "b")
        # After very many laps, too, which are not simulated.
        half = frac(Fraction(5 + 5 * 10 ** 40, 10 ** 41))
        self.assertEqual(first(simulation.handovers(half), 1), [(half, (5, 1), (0, 1), ("b", "a"))])

    def test_two_thousand(self):
        tables = {"a": table((0, 0), (1, 10 * 2000)), "b": table((0, 5))}
        found = list(Play(tables, length=10).handovers())
        self.assertEqual([t for t, _, _, _ in found], [frac(Fraction(5 + 10 * k, 20000)) for k in range(2000)])

    def test_generators_do_not_disturb_each_other(self):
        tables = {"c": C, "d": RING["d"], "e": table((0, 8), (9, -19), (20, 3))}
        wanted = list(Play(tables, length=10).handovers())
        self.assertGreater(len(wanted), 5)
        simulation = Play(tables, length=10)
        one, other = simulation.handovers(), simulation.handovers(wanted[2][0])
        self.assertTrue(inspect.isgenerator(one))
        found = ([], [])
        for k in range(len(wanted)):
            found[0].append(next(one))
            simulation.held(1, (40 - k, 1))
            if k + 2 < len(wanted):
                found[1].append(next(other))
            simulation.spells(0, (k, 1))
            self.assertEqual(len(list(simulation.handovers())), len(wanted))
        self.assertEqual(found, (wanted, wanted[2:]))
        with self.assertRaises(StopIteration):
            next(one)

    def test_error_with_the_first_item(self):
        for tables, length in [(LINE, None), (RING, 10)]:
            for since in [(-1, 1), (-1, 100)]:
                items = Play(tables, length=length).handovers(since)
                with self.assertRaises(NoTime):
                    next(items)

    def test_against_a_slow_way(self):
        many = 0
        for tables, length, dice in random_plays(250, 42):
            wanted = slow_handovers(tables, length)
            many += len(wanted)
            simulation = Play(tables, length=length)
            self.assertEqual(list(simulation.handovers()), wanted)
            t = dice.choice(times_of(tables, length))
            self.assertEqual(list(simulation.handovers(frac(t))), [row for row in wanted if number(row[0]) >= t])
        self.assertGreater(many, 500)


class SpellsTest(unittest.TestCase):
    """Item 6."""

    def test_until(self):
        simulation = Play(RING, length=10)
        wanted = [((0, 1), (5, 1), "c"), ((5, 1), (15, 1), "d"), ((15, 1), (30, 1), "c")]
        self.assertEqual(simulation.spells(0, (30, 1)), wanted)
        self.assertEqual(simulation.spells(0, (15, 1)), wanted[:2])
        self.assertEqual(simulation.spells(0, (9, 1)), wanted[:1] + [((5, 1), (9, 1), "d")])
        self.assertEqual(simulation.spells(0, (5, 1)), wanted[:1])
        self.assertEqual(simulation.spells(0, (1, 7)), [((0, 1), (1, 7), "c")])
        self.assertEqual(simulation.spells(0, (0, 1)), [])
        self.assertEqual(simulation.spells(1, (0, 1)), [])

    def test_no_neighbours_of_one_name(self):
        # b is together with others twice, and stays where it is; c has knots that change nothing.
        tables = {"a": table((0, 0), (2, 2), (4, 0)), "b": B, "c": table((0, 9), (1, 9), (2, 9), (5, 9), (6, 10)),
                  "d": table((0, 4), (2, 2), (3, 3), (9, 9))}
        self.assertEqual(Play(tables).spells(1, (9, 1)), [((0, 1), (9, 1), "b")])
        self.assertEqual(Play(tables).spells(3, (9, 1)), [((0, 1), (9, 1), "c")])

    def test_the_list_may_be_changed(self):
        simulation = Play(LINE)
        found = simulation.spells(0, (4, 1))
        found.append(None)
        found[0] = None
        self.assertEqual(simulation.spells(0, (4, 1)), [((0, 1), (2, 1), "a"), ((2, 1), (4, 1), "b")])
        self.assertEqual(simulation.held(0, (1, 1)), "a")

    def test_against_a_slow_way(self):
        for tables, length, dice in random_plays(120, 43):
            moments = slow_moments(tables, length)
            simulation = Play(tables, length=length)
            until = dice.choice(times_of(tables, length))
            for carrier in range(len(tables)):
                spells = simulation.spells(carrier, frac(until))
                if until == begin_number(tables):
                    self.assertEqual(spells, [])
                    continue
                self.assertEqual((spells[0][0], spells[-1][1]), (frac(begin_number(tables)), frac(until)))
                for one, other in zip(spells, spells[1:]):
                    self.assertEqual(one[1], other[0])
                    self.assertNotEqual(one[2], other[2])
                for start, end, name in spells:
                    self.assertLess(number(start), number(end))
                    for t in [(number(start) + number(end)) / 2, number(end)]:
                        self.assertEqual(slow_copies(moments, t)[carrier][0], name)


class ErrorsTest(unittest.TestCase):
    """Item 7."""

    def setUp(self):
        self.plays = [Play(LINE), Play(LINE, length=10)]

    def test_no_name(self):
        for name in ODD_VALUES + ["c", "A", "ab", None, 1, ("a",), ["a"], {"a": "b"}]:
            if name == "a":
                continue
            for simulation in self.plays:
                for t in [(1, 1), (-1, 1)]:
                    with self.assertRaises(NoName, msg=name) as caught:
                        simulation.holder(name, t)
                    self.assertEqual(caught.exception.name, name)
                    self.assertIs(type(caught.exception.name), type(name))

    def test_no_carrier(self):
        for carrier in NO_CARRIERS:
            for simulation in self.plays:
                for t in [(1, 1), (-1, 1)]:
                    for method in [simulation.held, simulation.place, simulation.spells]:
                        with self.assertRaises(NoCarrier, msg=carrier):
                            method(carrier, t)

    def test_no_time(self):
        for t in [(-1, 1), (-1, 10 ** 50), (-(10 ** 50), 1)]:
            for simulation in self.plays:
                for method, what in [(simulation.holder, "b"), (simulation.held, 1), (simulation.place, 0),
                                     (simulation.spells, 1)]:
                    with self.assertRaises(NoTime):
                        method(what, t)
        late = Play({"a": A.later((1, 1))})
        for wrong in [lambda: late.place(0, (99, 100)), lambda: late.held(0, (99, 100)),
                      lambda: late.holder("a", (0, 1)), lambda: late.spells(0, (0, 1)),
                      lambda: list(late.handovers((0, 1)))]:
            with self.assertRaises(NoTime):
                wrong()
        self.assertEqual(late.place(0, (1, 1)), (0, 1))

    def test_errors_change_nothing(self):
        for simulation in self.plays:
            before = (simulation.spells(0, (9, 1)), list(simulation.handovers()))
            for wrong in [lambda: simulation.holder("x", (3, 1)), lambda: simulation.held(2, (3, 1)),
                          lambda: simulation.place(0, (-3, 1)), lambda: list(simulation.handovers((-1, 1)))]:
                with self.assertRaises(ValueError):
                    wrong()
            self.assertEqual((simulation.spells(0, (9, 1)), list(simulation.handovers())), before)


if __name__ == "__main__":
    unittest.main()
