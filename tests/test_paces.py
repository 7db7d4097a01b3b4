"""Items 1 to 4 of paces, elsewhere, texts and console: speeds."""

import inspect
import unittest
from fractions import Fraction

from helper import A, B, LINE, NAMES, ODD_VALUES, RING, begin_number, frac, height, number, random_plays, slow_moments
from helper import table

from handedpast import paces
from handedpast.errors import NoTrack
from handedpast.paces import first_fail, paces_for

HUGE = 10 ** 40


def slow_speeds(tables, length):
    """The list of (start, name, speed) of each carrier, by a slow search."""
    moments = slow_moments(tables, length)
    found = [[] for _ in tables]
    ends = [start for start, _ in moments[1:]] + [moments[-1][0] + 1]
    for (start, copies), end in zip(moments, ends):
        for carrier, (name, _) in enumerate(copies):
            way = height(tables[name], end) - height(tables[name], start)
            found[carrier].append((start, name, abs(way) / (end - start)))
    return found


def slow_first_fail(tables, speeds, length):
    fails = [(start, carrier, name) for carrier, rows in enumerate(slow_speeds(tables, length))
             for start, name, speed in rows if speed > speeds[carrier]]
    if not fails:
        return None
    start, carrier, name = min(fails)
    return (frac(start), carrier, name)


def slow_paces(tables, length):
    return [frac(max(speed for _, _, speed in rows)) for rows in slow_speeds(tables, length)]


class FirstFailTest(unittest.TestCase):
    """Item 1."""

    def test_examples(self):
        self.assertEqual(first_fail(LINE, [(1, 1), (1, 2)]), ((2, 1), 1, "a"))
        self.assertEqual(paces_for(LINE), [(1, 1), (1, 1)])

    def test_interface(self):
        self.assertEqual(str(inspect.signature(first_fail)), "(tables, paces, *, length=None)")
        self.assertEqual(str(inspect.signature(paces_for)), "(tables, *, length=None)")
        for made in (first_fail, paces_for):
            self.assertEqual(made.__module__, paces.__name__)
        self.assertEqual(first_fail(length=10, paces=[(1, 1), (1, 2)], tables=RING), ((5, 1), 1, "c"))
        self.assertEqual(paces_for(length=10, tables=RING), [(1, 1), (1, 1)])

    def test_exact_speeds(self):
        self.assertIsNone(first_fail(LINE, [(1, 1), (1, 1)]))
        self.assertEqual(first_fail(LINE, [(HUGE - 1, HUGE), (1, 1)]), ((0, 1), 0, "a"))
        self.assertEqual(first_fail(LINE, [(1, 1), (HUGE - 1, HUGE)]), ((2, 1), 1, "a"))
        self.assertIsNone(first_fail(LINE, [(HUGE, 1), (HUGE, 1)]))

    def test_rest(self):
        rest = {"a": table((0, 5)), "b": table((0, 7), (9, 7))}
        self.assertIsNone(first_fail(rest, [(0, 1), (0, 1)]))
        self.assertEqual(paces_for(rest), [(0, 1), (0, 1)])
        self.assertEqual(first_fail(LINE, [(0, 1), (0, 1)]), ((0, 1), 0, "a"))
        # The first carrier rests until the load comes back.
        self.assertEqual(first_fail({"a": table((0, 0), (1, 0), (2, -3))}, [(0, 1)]), ((1, 1), 0, "a"))

    def test_least_carrier(self):
        tables = {"a": table((0, 1), (1, 2)), "b": table((0, 5), (1, 3)), "c": table((0, 9), (1, 12))}
        self.assertEqual(first_fail(tables, [(0, 1)] * 3), ((0, 1), 0, "a"))
        self.assertEqual(first_fail(tables, [(1, 1), (1, 1), (1, 1)]), ((0, 1), 1, "b"))
        self.assertEqual(first_fail(tables, [(1, 1), (2, 1), (1, 1)]), ((0, 1), 2, "c"))
        self.assertEqual(first_fail(tables, ((1, 1), (2, 1), (3, 1))), None)

    def test_either_direction(self):
        tables = {"a": table((0, 0), (1, 2), (2, -2))}
        self.assertEqual(first_fail(tables, [(3, 1)]), ((1, 1), 0, "a"))
        self.assertEqual(paces_for(tables), [(4, 1)])
        # The speed stays although the direction changes: it fails from the first time on.
        self.assertEqual(first_fail({"a": table((0, 0), (1, 2), (2, 0))}, [(1, 1)]), ((0, 1), 0, "a"))

    def test_at_a_handover(self):
        tables = {"a": table((0, 0), (3, 3)), "b": table((0, 4), (2, 0))}
        self.assertEqual(paces_for(tables), [(2, 1), (2, 1)])
        # They meet at 4/3.
        self.assertEqual(first_fail(tables, [(1, 1), (2, 1)]), ((4, 3), 0, "b"))
        self.assertEqual(first_fail(tables, [(0, 1), (2, 1)]), ((0, 1), 0, "a"))

    def test_random(self):
        fails = 0
        for tables, length, dice in random_plays(200, 161):
            needed = slow_paces(tables, length)
            for _ in range(3):
                speeds = [dice.choice([need, need, frac(number(need) / 2), frac(dice.randint(0, 4)), (HUGE, 1)])
                          for need in needed]
                kept = list(speeds)
                wanted = slow_first_fail(tables, [number(speed) for speed in speeds], length)
                self.assertEqual(first_fail(tables, speeds, length=length), wanted)
                self.assertEqual(speeds, kept)
                fails += wanted is not None
        self.assertGreater(fails, 200)


class PacesForTest(unittest.TestCase):
    """Items 2 and 3."""

    def test_random(self):
        for tables, length, dice in random_plays(200, 162):
            needed = paces_for(tables, length=length)
            self.assertIsInstance(needed, list)
            self.assertEqual(needed, slow_paces(tables, length))
            self.assertIsNone(first_fail(tables, needed, length=length))
            speeds = [number(made.pace(t)) for made in tables.values() for t, _ in made.knots()]
            self.assertEqual(max(map(number, needed)), max(map(abs, speeds)))
            for k, need in enumerate(needed):
                if need != (0, 1):
                    less = frac(number(need) - number(need) / dice.choice([1, 2, HUGE]))
                    failed = first_fail(tables, needed[:k] + [less] + needed[k + 1:], length=length)
                    self.assertEqual(failed[1], k)

    def test_returned_list(self):
        found = paces_for(LINE)
        found.clear()
        self.assertEqual(paces_for(LINE), [(1, 1), (1, 1)])

    def compare(self, tables, length, made, made_length, factor=1, time=lambda t: t):
        """Whether the speeds are multiplied by the factor, and the failures moved in time."""
        needed = paces_for(tables, length=length)
        changed = paces_for(made, length=made_length)
        self.assertEqual(changed, [frac(number(need) * factor) for need in needed])
        for k in range(len(needed)):
            speeds = needed[:k] + [frac(number(needed[k]) / 2)] + needed[k + 1:]
            failed = first_fail(tables, speeds, length=length)
            found = first_fail(made, [frac(number(speed) * factor) for speed in speeds], length=made_length)
            wanted = None if failed is None else (frac(time(number(failed[0]))), *failed[1:])
            self.assertEqual(found, wanted)

    def test_positions_multiplied(self):
        for tables, length, dice in random_plays(60, 163):
            for factor in [2, 9, HUGE]:
                made = {name: old.scaled((factor, 1)) for name, old in tables.items()}
                self.compare(tables, length, made, length and length * factor, factor)

    def test_times_multiplied(self):
        for tables, length, dice in random_plays(60, 164):
            factor = Fraction(dice.randint(1, 30), dice.randint(1, 30))
            made = {name: table(*[(number(t) * factor, number(x)) for t, x in old.knots()])
                    for name, old in tables.items()}
            self.compare(tables, length, made, length, 1 / factor, lambda t: t * factor)

    def test_what_changes_nothing(self):
        for tables, length, dice in random_plays(60, 165):
            shift = Fraction(dice.randint(-50, 50), 7)
            made = {name: old.later(frac(shift)) for name, old in reversed(tables.items())}
            self.compare(tables, length, made, length, time=lambda t: t + shift)
            if length is not None:
                laps = {name: dice.randint(-3, 3) * length for name in tables}
                made = {name: old.moved((laps[name], 1)) for name, old in tables.items()}
                self.compare(tables, length, made, length)

    def test_mirrored_line(self):
        for tables, _, _ in random_plays(60, 166):
            if len({height(made, begin_number(tables)) for made in tables.values()}) == len(tables):
                made = {name: old.scaled((-1, 1)) for name, old in tables.items()}
                self.assertEqual(paces_for(made), paces_for(tables)[::-1])


class ErrorsTest(unittest.TestCase):
    """Item 4."""

    def test_no_track(self):
        wrong = [{}, {"A": A}, {"a": None}, {"a": A, "b": table((0, 10))}, {"a": A, "b": table((1, 5))}]
        for tables in wrong + ODD_VALUES + [None, 5]:
            with self.assertRaises(NoTrack):
                first_fail(tables, [(1, 1)], length=10)
            with self.assertRaises(NoTrack):
                paces_for(tables, length=10)
        for length in [value for value in ODD_VALUES if value is not None]:
            with self.assertRaises(NoTrack):
                first_fail(LINE, [(1, 1)] * 2, length=length)
            with self.assertRaises(NoTrack):
                paces_for(LINE, length=length)
        thirteen = {chr(97 + k): table((0, k)) for k in range(13)}
        with self.assertRaises(NoTrack):
            paces_for(thirteen)

    def test_accepted(self):
        twelve = {name: table((0, k), (9, 3 * k)) for k, name in enumerate(NAMES)}
        for length in [None, 12, HUGE]:
            self.assertEqual(len(paces_for(twelve, length=length)), 12)
            self.assertIsNone(first_fail(twelve, paces_for(twelve, length=length), length=length))
        for length in [None, 1, 2, 10 ** 60 - 1]:
            self.assertEqual(paces_for({"a": A}, length=length), [(1, 1)])
        self.assertEqual(paces_for({"b": B}, length=1), [(0, 1)])


if __name__ == "__main__":
    unittest.main()
