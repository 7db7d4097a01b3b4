"""Items 3 to 6: timetables."""

import unittest
from fractions import Fraction
from random import Random

from helper import A, B, ODD_VALUES, frac, height, number, random_table, table

from handedpast.errors import NoRest, NoTable, NoTime
from handedpast.tables import Timetable

# From 1 to 9: rises, rests, falls below 0.
WAY = table((1, 0), (3, 4), (5, 4), (9, -6))


def steps(many):
    """As many knots, the one at k seconds at place k squared."""
    return [((k, 1), (k * k, 1)) for k in range(many)]


class KnotsTest(unittest.TestCase):
    """Item 3: which values Timetable accepts."""

    def test_accepted(self):
        for many in [1, 2, 39, 40]:
            self.assertEqual(Timetable(steps(many)).knots(), steps(many))
        self.assertEqual(Timetable(tuple(steps(3))).knots(), steps(3))
        self.assertEqual(Timetable(knots=[((-1, 2), (-7, 3))]).knots(), [((-1, 2), (-7, 3))])
        long = 10 ** 60 - 1
        self.assertEqual(Timetable([((-long, 1), (long, 1)), ((1, long), (1, 1))]).begin(), (-long, 1))

    def test_wrong_number_of_knots(self):
        for wrong in [[], (), steps(41), tuple(steps(41)), steps(100)]:
            with self.assertRaises(NoTable):
                Timetable(wrong)

    def test_any_value(self):
        others = [1, None, {(0, 1): (0, 1)}, {((0, 1), (0, 1)): 1}, "00", ((0, 1), (0, 1)), [None], [True], [0]]
        for wrong in ODD_VALUES + others:
            with self.assertRaises(NoTable, msg=wrong):
                Timetable(wrong)

    def test_wrong_knots(self):
        good = ((0, 1), (0, 1))
        for knot in [[(0, 1), (0, 1)], ((0, 1),), ((0, 1), (0, 1), (0, 1)), (), (0, 1), {}, "ab", None, 5, True]:
            for wrong in [[knot], [((-1, 1), (0, 1)), knot], [knot, ((1, 1), (0, 1))], [good, knot]]:
                with self.assertRaises(NoTable, msg=wrong):
                    Timetable(wrong)

    def test_wrong_parts(self):
        for part in ODD_VALUES + [1, None]:
            for wrong in [[(part, (0, 1))], [((0, 1), part)], [((-1, 1), (0, 1)), ((0, 1), part)]]:
                with self.assertRaises(NoTable, msg=wrong):
                    Timetable(wrong)

    def test_times_must_ascend(self):
        for times in [[(1, 1), (1, 1)], [(1, 1), (1, 2)], [(0, 1), (2, 1), (1, 1)], [(0, 1), (1, 3), (1, 3)]]:
            with self.assertRaises(NoTable):
                Timetable([(t, (0, 1)) for t in times])
        Timetable([((1, 3), (0, 1)), ((1, 2), (0, 1)), ((2, 3), (0, 1))])

    def test_lists_are_copied(self):
        knots = steps(3)
        made = Timetable(knots)
        knots.append(((9, 1), (9, 1)))
        knots[0] = None
        self.assertEqual(made.knots(), steps(3))
        made.knots().pop()
        made.knots()[0] = None
        self.assertEqual(made.knots(), steps(3))
        self.assertEqual(made.at((2, 1)), (4, 1))

    def test_arguments_stay(self):
        for knots in [steps(4), steps(41), [None, 1]]:
            kept = list(knots)
            try:
                Timetable(knots)
            except NoTable:
                pass
            self.assertEqual(knots, kept)

    def test_class(self):
        self.assertEqual(Timetable.MOST, 40)
        self.assertEqual(A.MOST, 40)
        rest = Timetable.resting((3, 2), (-5, 1))
        self.assertIsInstance(rest, Timetable)
        self.assertEqual(rest.knots(), [((3, 2), (-5, 1))])
        self.assertEqual(Timetable.resting(t=(0, 1), x=(2, 1)), B)
        for name in ["resting", "knots", "begin", "at", "pace", "walked", "rests_at", "led_on", "moved", "later",
                     "scaled", "__init__", "__eq__"]:
            self.assertIn(name, Timetable.__dict__)
        self.assertEqual(Timetable.__module__, "handedpast.tables")

    def test_examples(self):
        self.assertEqual(A.at((5, 2)), (5, 2))
        self.assertEqual(A.pace((4, 1)), (0, 1))
        self.assertEqual(A.led_on((6, 1), [((8, 1), (0, 1))]).at((7, 1)), (2, 1))
        with self.assertRaises(NoTable):
            Timetable([])


class ReadingTest(unittest.TestCase):
    """Item 4: at, pace, rests_at and walked."""

    def test_at(self):
        found = [WAY.at((t, 2)) for t in [2, 3, 6, 7, 10, 11, 18, 19, 200]]
        wanted = [(0, 1), (1, 1), (4, 1), (4, 1), (4, 1), (11, 4), (-6, 1), (-6, 1), (-6, 1)]
        self.assertEqual(found, wanted)
        self.assertEqual(WAY.at(t=(2, 1)), (2, 1))
        self.assertEqual(WAY.begin(), (1, 1))

    def test_pace_is_that_just_after(self):
        found = [WAY.pace((t, 1)) for t in [1, 2, 3, 4, 5, 8, 9, 10]]
        wanted = [(2, 1), (2, 1), (0, 1), (0, 1), (-5, 2), (-5, 2), (0, 1), (0, 1)]
        self.assertEqual(found, wanted)
        self.assertEqual(B.pace((0, 1)), (0, 1))
        self.assertEqual(WAY.pace(t=(5, 1)), (-5, 2))

    def test_rests_at(self):
        found = [WAY.rests_at(t) for t in [(-3, 1), (0, 1), (1, 1), (17, 2), (9, 1), (10, 1)]]
        self.assertEqual(found, [False, False, False, False, True, True])
        self.assertIs(B.rests_at((0, 1)), True)
        self.assertIs(B.rests_at((-1, 1)), False)
        self.assertIs(WAY.rests_at(t=(9, 1)), True)
        # The last knot counts even if the load rests before it.
        self.assertIs(table((0, 1), (4, 1)).rests_at((3, 1)), False)

    def test_walked(self):
        self.assertEqual(WAY.walked((1, 1), (9, 1)), (14, 1))
        self.assertEqual(WAY.walked((1, 1), (100, 1)), (14, 1))
        self.assertEqual(WAY.walked((2, 1), (6, 1)), (9, 2))
        self.assertEqual(WAY.walked((6, 1), (8, 1)), (5, 1))
        self.assertEqual(WAY.walked((3, 1), (5, 1)), (0, 1))
        self.assertEqual(WAY.walked((2, 1), (2, 1)), (0, 1))
        self.assertEqual(WAY.walked((1, 1), (1, 1)), (0, 1))
        self.assertEqual(WAY.walked(t=(9, 1), u=(10, 1)), (0, 1))

    def test_no_time(self):
        for t in [(1, 2), (0, 1), (-5, 1), (99, 100)]:
            for call in [WAY.at, WAY.pace]:
                with self.assertRaises(NoTime):
                    call(t)
            for u in [(-9, 1), t, (3, 1), (20, 1)]:
                with self.assertRaises(NoTime):
                    WAY.walked(t, u)
                with self.assertRaises(NoTime):
                    WAY.walked(u, t)
        for t, u in [((3, 1), (2, 1)), ((30, 1), (29, 1)), ((1, 1), (1, 2))]:
            with self.assertRaises(NoTime):
                WAY.walked(t, u)

    def test_against_a_slow_way(self):
        dice = Random(4)
        for _ in range(100):
            made = random_table(dice)
            begin = number(made.begin())
            times = [begin + Fraction(k, 6) for k in range(60)]
            places = [height(made, t) for t in times]
            self.assertEqual([made.at(frac(t)) for t in times], [frac(x) for x in places])
            # All knots are at multiples of 1/2, so that the places at sixths tell the distance.
            ways = [abs(x - y) for x, y in zip(places, places[1:])]
            for low, high in [(0, 59), (5, 20), (11, 12), (7, 7)]:
                self.assertEqual(made.walked(frac(times[low]), frac(times[high])), frac(sum(ways[low:high])))
            for k in range(59):
                self.assertEqual(made.pace(frac(times[k])), frac(6 * (places[k + 1] - places[k])))


class LedOnTest(unittest.TestCase):
    """Item 5: led_on."""

    def test_at_the_last_knot(self):
        led = A.led_on((4, 1), [((6, 1), (0, 1)), ((7, 1), (1, 2))])
        self.assertEqual(led.knots(), A.knots() + [((6, 1), (0, 1)), ((7, 1), (1, 2))])

    def test_later(self):
        led = A.led_on((9, 2), (((6, 1), (0, 1)),))
        self.assertEqual(led.knots(), A.knots() + [((9, 2), (4, 1)), ((6, 1), (0, 1))])
        self.assertEqual(A.led_on(t=(4, 1), more=[((5, 1), (5, 1))]).at((5, 1)), (5, 1))

    def test_no_rest_comes_first(self):
        for t in [(3, 1), (0, 1), (-1, 1), (399, 100)]:
            for more in ODD_VALUES + [[((5, 1), (5, 1))], [((-9, 1), (5, 1))], steps(60)]:
                with self.assertRaises(NoRest):
                    A.led_on(t, more)

    def test_no_table(self):
        wrong = [[((4, 1), (0, 1))], [((3, 1), (0, 1))], [((-3, 1), (0, 1)), ((9, 1), (0, 1))], None, 1,
                 [((6, 1), (0, 1)), ((6, 1), (0, 1))], [[(6, 1), (0, 1)]], [((6, 1), 0)], ((6, 1), (0, 1))]
        for more in ODD_VALUES + wrong:
            with self.assertRaises(NoTable, msg=more):
                A.led_on((4, 1), more)
        for more in [[((4, 1), (0, 1))], [((5, 1), (0, 1))]]:
            with self.assertRaises(NoTable):
                A.led_on((5, 1), more)

    def test_most_knots(self):
        more = [((k + 50, 1), (0, 1)) for k in range(50)]
        for have in [1, 10, 39]:
            made = Timetable(steps(have))
            end = (have - 1, 1)
            self.assertEqual(len(made.led_on(end, more[:40 - have]).knots()), 40)
            with self.assertRaises(NoTable):
                made.led_on(end, more[:41 - have])
            with self.assertRaises(NoTable):
                made.led_on((45, 1), more[:40 - have])
        self.assertEqual(len(Timetable(steps(38)).led_on((45, 1), more[:1]).knots()), 40)
        with self.assertRaises(NoTable):
            Timetable(steps(40)).led_on((39, 1), more[:1])

    def test_nothing_else_changes(self):
        made = Timetable(steps(3))
        more = [((8, 1), (0, 1))]
        led = made.led_on((5, 1), more)
        more.append(((9, 1), (0, 1)))
        self.assertEqual(led.knots(), steps(3) + [((5, 1), (4, 1)), ((8, 1), (0, 1))])
        self.assertEqual(made.knots(), steps(3))
        for t, wrong in [((0, 1), more), ((5, 1), None), ((5, 1), [((7, 1), (0, 1))] * 2)]:
            with self.assertRaises(ValueError):
                made.led_on(t, wrong)
            self.assertEqual(made.knots(), steps(3))
        self.assertEqual(more, [((8, 1), (0, 1)), ((9, 1), (0, 1))])


class ChangedTest(unittest.TestCase):
    """Item 6: moved, later, scaled and ==."""

    def test_moved_later_scaled(self):
        self.assertEqual(A.moved((-5, 2)).knots(), [((0, 1), (-5, 2)), ((4, 1), (3, 2))])
        self.assertEqual(A.later((-1, 3)).knots(), [((-1, 3), (0, 1)), ((11, 3), (4, 1))])
        self.assertEqual(A.scaled((-1, 2)).knots(), [((0, 1), (0, 1)), ((4, 1), (-2, 1))])
        self.assertEqual(A.moved(x=(1, 1)).at((1, 1)), (2, 1))
        self.assertEqual(A.later(t=(1, 1)).at((2, 1)), (1, 1))
        self.assertEqual(A.scaled(a=(3, 1)).at((1, 1)), (3, 1))
        self.assertEqual(A.knots(), [((0, 1), (0, 1)), ((4, 1), (4, 1))])

    def test_and_back_again(self):
        for x in [(7, 3), (-2, 1), (10 ** 59, 7)]:
            self.assertEqual(WAY.moved(x).moved((-x[0], x[1])), WAY)
            self.assertEqual(WAY.later(x).later((-x[0], x[1])), WAY)
            self.assertEqual(WAY.scaled(x).scaled(frac(1 / number(x))), WAY)
            self.assertNotEqual(WAY.moved(x), WAY)
            self.assertNotEqual(WAY.later(x), WAY)
            self.assertNotEqual(WAY.scaled(x), WAY)

    def test_further_knots_make_no_difference(self):
        for same in [table((0, 0), (1, 1), (4, 4)), table((0, 0), (4, 4), (5, 4)),
                     table((0, 0), (1, 1), (2, 2), (3, 3), (4, 4), (6, 4), (Fraction(13, 2), 4))]:
            self.assertTrue(A == same)
            self.assertTrue(same == A)
            self.assertFalse(A != same)
        self.assertEqual(B, table((0, 2), (1, 2), (9, 2)))
        self.assertEqual(Timetable([((k, 1), (k, 1)) for k in range(40)]), table((0, 0), (39, 39)))

    def test_different(self):
        for other in [table((1, 1), (4, 4)), table((-1, 0), (0, 0), (4, 4)), table((0, 0), (4, 5)),
                      table((0, 0), (5, 5)), table((0, 0), (2, 1), (4, 4)), table((0, 0)),
                      table((0, 0), (4, 4), (5, 4), (6, 3)), B]:
            self.assertFalse(A == other)
            self.assertFalse(other == A)
            self.assertTrue(A != other)
        self.assertFalse(B == table((1, 2)))

    def test_other_values(self):
        for other in ODD_VALUES + [None, 1, A.knots(), tuple(A.knots()), "0:0 4:4"]:
            self.assertIs(A == other, False)
            self.assertIs(A != other, True)
            self.assertIs(other == A, False)

    def test_equal_as_functions(self):
        dice = Random(6)
        many_equal = 0
        for _ in range(3000):
            one = table(*[(t, dice.randint(0, 1)) for t in sorted(dice.sample(range(4), dice.randint(1, 4)))])
            other = table(*[(t, dice.randint(0, 1)) for t in sorted(dice.sample(range(4), dice.randint(1, 4)))])
            # Both change their slopes at whole times only, and no more from 3 on.
            times = [Fraction(k) for k in range(5)]
            same = one.begin() == other.begin() and all(height(one, t) == height(other, t) for t in times)
            self.assertIs(one == other, same)
            many_equal += same
        self.assertGreater(many_equal, 100)


if __name__ == "__main__":
    unittest.main()
