"""Items 1 and 2 of orders, play, counting and shares: order_at and its errors."""

import inspect
import unittest
from fractions import Fraction
from functools import cmp_to_key
from itertools import permutations
from random import Random

from helper import A, B, LINE, NAMES, ODD_VALUES, RING, frac, height, number, random_plays, random_table
from helper import slow_before, spot_number, table, times_of

from handedpast import orders
from handedpast.errors import NoTime, NoTrack
from handedpast.orders import order_at

HUGE = 10 ** 30
# Comes to 0 from below at 2, stays there until 6, and goes back.
BELOW = table((0, -2), (2, 0), (6, 0), (8, -2))
# Comes to 0 from above at 3, stays there until 6, and goes through.
ABOVE = table((0, 3), (3, 0), (6, 0), (8, -4))
REST = table((0, 0))


class ExamplesTest(unittest.TestCase):
    def test_examples(self):
        self.assertEqual(order_at(LINE, (2, 1)), ["a", "b"])
        self.assertEqual(order_at(LINE, (3, 1)), ["b", "a"])
        self.assertEqual(order_at(RING, (12, 1), length=10), [("c", -1), ("d", 0)])

    def test_interface(self):
        self.assertEqual(str(inspect.signature(order_at)), "(tables, t, *, length=None)")
        self.assertEqual(order_at.__module__, "handedpast.orders")
        self.assertIn("order_at", orders.__dict__)
        self.assertEqual(order_at(tables=LINE, t=(2, 1), length=None), ["a", "b"])
        self.assertEqual(order_at(t=(12, 1), length=10, tables=RING), [("c", -1), ("d", 0)])

    def test_arguments_stay_and_the_list_is_new(self):
        tables = dict(RING)
        found = order_at(tables, (12, 1), length=10)
        found.clear()
        self.assertEqual(order_at(tables, (12, 1), length=10), [("c", -1), ("d", 0)])
        self.assertEqual(list(tables.items()), list(RING.items()))


class LineTest(unittest.TestCase):
    """Item 1 on a line."""

    def test_apart(self):
        tables = {"z": table((0, -7)), "y": table((0, Fraction(-1, 3))), "x": table((0, Fraction(-1, 2)))}
        self.assertEqual(order_at(tables, (5, 1)), ["z", "x", "y"])
        self.assertEqual(order_at({"a": A}, (3, 1)), ["a"])

    def test_as_before_the_contact_and_as_long_as_it_lasts(self):
        tables = {"rest": REST, "above": ABOVE, "below": BELOW}
        wanted = {0: "below rest above", 2: "below rest above", 3: "below rest above", 5: "below rest above",
                  6: "below rest above", 7: "above below rest"}
        for t, names in wanted.items():
            for some in permutations(tables.items()):
                self.assertEqual(order_at(dict(some), (t, 1)), names.split(), t)

    def test_several_spots(self):
        tables = {"a": A, "b": table((0, 4)), "c": table((0, 9), (4, 6)), "d": table((0, 6)), "e": table((0, 5))}
        self.assertEqual(order_at(tables, (4, 1)), ["a", "b", "e", "d", "c"])
        self.assertEqual(order_at(tables, (99, 1)), ["a", "b", "e", "d", "c"])

    def test_one_began_later(self):
        late = table((5, 3), (6, 0))
        tables = {"rest": REST, "late": late, "below": BELOW}
        for some in permutations(tables.items()):
            self.assertEqual(order_at(dict(some), (5, 1)), ["below", "rest", "late"])
            self.assertEqual(order_at(dict(some), (6, 1)), ["below", "rest", "late"])
        self.assertEqual(order_at({"a": table((3, 5), (4, 4)), "b": A}, (7, 1)), ["b", "a"])

    def test_very_far_and_very_close(self):
        one = table((0, HUGE), (1, HUGE + 1))
        other = table((0, HUGE + Fraction(1, HUGE)), (1, HUGE + 1))
        self.assertEqual(order_at({"a": one, "b": other}, (1, 1)), ["a", "b"])
        self.assertEqual(order_at({"a": other, "b": one}, (1, 1)), ["b", "a"])


class RingTest(unittest.TestCase):
    """Item 1 on a ring."""

    def test_copies(self):
        tables = {"a": table((0, -1)), "b": table((0, 35)), "c": table((0, 12)), "d": table((0, 0))}
        self.assertEqual(order_at(tables, (0, 1), length=10), [("d", 0), ("c", -1), ("b", -3), ("a", 1)])
        self.assertEqual(order_at(tables, (0, 1), length=100), [("d", 0), ("c", 0), ("b", 0), ("a", 1)])
        self.assertEqual(order_at({"a": A}, (3, 1), length=1), [("a", -3)])

    def test_many_laps_forward_and_backward(self):
        for laps in [1, -1, 7, HUGE, -HUGE, 10 ** 58]:
            goes = table((0, 4), (1, 10 * laps + 5), (3, 10 * laps + 5))
            ahead = laps < 0
            tables = {"rest": table((0, 5)), "goes": goes, "other": table((0, 6))}
            pair = [("goes", -laps), ("rest", 0)]
            wanted = [*(reversed(pair) if ahead else pair), ("other", 0)]
            for some in permutations(tables.items()):
                for t in [(1, 1), (2, 1), (3, 1), (HUGE, 1)]:
                    self.assertEqual(order_at(dict(some), t, length=10), wanted)

    def test_together_at_zero(self):
        # c comes to 10 from below, d to 0 from above, both by several laps: all are at the spot 0.
        tables = {"c": table((0, 3), (1, 10)), "r": table((0, 0)), "d": table((0, 7), (1, -70))}
        self.assertEqual(order_at(tables, (1, 1), length=10), [("c", -1), ("r", 0), ("d", 7)])
        tables = {"c": table((0, 3), (1, 10), (2, 13)), "d": table((0, 0))}
        self.assertEqual(order_at(tables, (1, 1), length=10), [("c", -1), ("d", 0)])
        self.assertEqual(order_at(tables, (2, 1), length=10), [("d", 0), ("c", -1)])

    def test_one_began_later(self):
        late = table((5, 23), (6, 20), (7, 20))
        tables = {"rest": table((0, 0)), "late": late, "below": BELOW}
        for some in permutations(tables.items()):
            self.assertEqual(order_at(dict(some), (6, 1), length=10), [("below", 0), ("rest", 0), ("late", -2)])
            self.assertEqual(order_at(dict(some), (7, 1), length=10), [("rest", 0), ("late", -2), ("below", 1)])

    def test_after_very_many_laps_at_a_crossing(self):
        fast = table((0, 0), (1, 10 * HUGE))
        tables = {"fast": fast, "rest": table((0, 5))}
        t = Fraction(5 + 10 * (HUGE - 7), 10 * HUGE)
        self.assertEqual(order_at(tables, frac(t), length=10), [("fast", 7 - HUGE), ("rest", 0)])
        later = t + Fraction(1, 10 ** 40)
        self.assertEqual(order_at(tables, frac(later), length=10), [("rest", 0), ("fast", 7 - HUGE)])


class SlowTest(unittest.TestCase):
    def compare(self, tables, length, t):
        """Whether the order is what the document says, found pair by pair; None stands for NoTime."""
        def way(one, other):
            here, there = [spot_number(height(tables[name], t), length) for name in (one, other)]
            if here != there:
                return -1 if here < there else 1
            return slow_before(tables[one], tables[other], t, length)

        pairs = [(one, other) for one in tables for other in tables if one != other]
        wanted = None
        if all(number(tables[name].begin()) <= t for name in tables) and all(way(*pair) for pair in pairs):
            wanted = sorted(tables, key=cmp_to_key(way))
            if length is not None:
                wanted = [(name, -(height(tables[name], t) // length)) for name in wanted]
        try:
            found = order_at(tables, frac(t), length=length)
        except NoTime:
            found = None
        self.assertEqual(found, wanted)
        return found is None

    def test_one_begin(self):
        for tables, length, _ in random_plays(50, 31):
            for t in times_of(tables, length):
                self.assertFalse(self.compare(tables, length, t))

    def test_different_begins(self):
        dice = Random(32)
        refused = 0
        for _ in range(200):
            tables = {name: random_table(dice) for name in dice.sample(NAMES, dice.randint(1, 4))}
            for t in dice.sample(range(0, 20), 4):
                refused += self.compare(tables, dice.choice([None, 1, 3]), Fraction(t, 2))
        self.assertGreater(refused, 100)
        self.assertLess(refused, 700)


class ErrorsTest(unittest.TestCase):
    """Item 2."""

    def test_no_track(self):
        for length in [value for value in ODD_VALUES if value is not None]:
            for t in [(0, 1), (3, 1), (-1, 1)]:
                with self.assertRaises(NoTrack, msg=length):
                    order_at(LINE, t, length=length)
        for length in [None, 1, 10 ** 60 - 1]:
            order_at(LINE, (1, 2), length=length)

    def test_not_begun(self):
        late = A.later((1, 1))
        for tables, t in [(LINE, (-1, 100)), ({"a": late, "b": B}, (1, 2)), ({"b": B, "a": late}, (99, 100)),
                          ({"a": late}, (-5, 1)), ({"a": A}, (-1, 10 ** 50))]:
            for length in [None, 7]:
                with self.assertRaises(NoTime):
                    order_at(tables, t, length=length)
        self.assertEqual(order_at({"b": B, "a": late}, (1, 1)), ["a", "b"])

    def test_together_from_the_begin_until_they_part(self):
        stays = table((0, 0), (3, 0), (4, 1))
        for other in [REST, table((-2, -1), (0, 0)), table((1, 0)), table((3, 0))]:
            for length, moved in [(None, 0), (5, 0), (5, -15)]:
                tables = {"a": stays, "b": other.moved((moved, 1)), "c": table((0, 3))}
                for t in [3, 2, 1, 0]:
                    with self.assertRaises(NoTime):
                        order_at(tables, (t, 1), length=length)
                for t in [Fraction(7, 2), 4, 100]:
                    found = order_at(tables, frac(t), length=length)
                    names = found if length is None else [name for name, _ in found]
                    self.assertEqual(names, ["b", "a", "c"])

    def test_a_later_contact_is_in_order(self):
        back = table((0, 0), (1, 1), (2, 0))
        self.assertEqual(order_at({"a": back, "b": REST}, (2, 1)), ["b", "a"])
        self.assertEqual(order_at({"a": back, "b": REST}, (9, 1), length=3), [("b", 0), ("a", 0)])
        with self.assertRaises(NoTime):
            order_at({"a": back, "b": REST}, (0, 1))

    def test_one_of_three_began_there(self):
        tables = {"a": A, "b": table((0, 4)), "c": table((7, 4), (8, 5))}
        self.assertEqual(order_at({"a": A, "b": tables["b"]}, (7, 1)), ["a", "b"])
        with self.assertRaises(NoTime):
            order_at(tables, (7, 1))
        self.assertEqual(order_at(tables, (15, 2)), ["a", "b", "c"])

    def test_errors_change_nothing(self):
        tables = {"a": A, "b": A}
        for t, length in [((0, 1), None), ((-1, 1), 3), ((0, 1), 0)]:
            with self.assertRaises(ValueError):
                order_at(tables, t, length=length)
        self.assertEqual(tables, {"a": A, "b": A})


if __name__ == "__main__":
    unittest.main()
