"""Items 7 to 11: contacts, laps, crossings, and their errors."""

import inspect
import unittest
from fractions import Fraction

from helper import A, B, C, D, ODD_VALUES, first, frac, height, later_begin, number, random_pairs
from helper import random_time, slow_contacts, slow_crossings, table

from handedpast import pairs
from handedpast.errors import NoTime, NoTrack
from handedpast.pairs import contacts, crossing_counts, crossings, laps
from handedpast.tables import Timetable

REST = table((0, 0))
# Rises through 0 at 2, falls through it at 5, touches it from below at 8, rests at it from 10 to 12.
WAVE = table((0, -2), (3, 1), (4, 1), (7, -2), (8, 0), (9, -1), (10, 0), (12, 0), (13, 1))
HUGE = 10 ** 59


class ExamplesTest(unittest.TestCase):
    def test_examples(self):
        self.assertEqual(contacts(A, B, since=(0, 1), until=(4, 1)), [((2, 1), (2, 1), -1, 1)])
        self.assertEqual(laps(A, B, (1, 1)), -1)
        self.assertEqual(list(crossings(C, D, length=10, since=(0, 1))), [((5, 1), 1), ((15, 1), 1)])
        self.assertEqual(crossing_counts(D, C, length=10, since=(0, 1), until=(20, 1)), (0, 2))

    def test_parameter_names(self):
        span = {"length": None, "since": (0, 1), "until": (4, 1)}
        self.assertEqual(contacts(one=A, other=B, **span), [((2, 1), (2, 1), -1, 1)])
        self.assertEqual(crossing_counts(one=A, other=B, **span), (1, 0))
        self.assertEqual(laps(one=C, other=D, t=(15, 1), length=10), 1)
        self.assertEqual(list(crossings(one=B, other=A, length=None, since=(0, 1))), [((2, 1), -1)])

    def test_keyword_only(self):
        self.assertEqual(str(inspect.signature(contacts)), "(one, other, *, length=None, since, until)")
        self.assertEqual(str(inspect.signature(laps)), "(one, other, t, *, length=None)")
        self.assertEqual(str(inspect.signature(crossing_counts)), "(one, other, *, length=None, since, until)")
        self.assertEqual(str(inspect.signature(crossings)), "(one, other, *, length=None, since)")
        for function in [contacts, laps, crossing_counts, crossings]:
            self.assertEqual(function.__module__, "handedpast.pairs")

    def test_arguments_stay(self):
        one, other = WAVE.knots(), REST.knots()
        contacts(WAVE, REST, length=3, since=(0, 1), until=(20, 1))
        crossing_counts(WAVE, REST, length=3, since=(0, 1), until=(20, 1))
        list(crossings(WAVE, REST, length=3, since=(0, 1)))
        laps(WAVE, REST, (3, 1), length=3)
        self.assertEqual((WAVE.knots(), REST.knots()), (one, other))

    def test_lists_belong_to_the_caller(self):
        found = contacts(A, B, since=(0, 1), until=(4, 1))
        found.clear()
        self.assertEqual(len(contacts(A, B, since=(0, 1), until=(4, 1))), 1)


class ContactsTest(unittest.TestCase):
    """Item 7."""

    def test_single_times_and_intervals(self):
        wanted = [((2, 1), (2, 1), -1, 1), ((5, 1), (5, 1), 1, -1), ((8, 1), (8, 1), -1, -1),
                  ((10, 1), (12, 1), -1, 1)]
        self.assertEqual(contacts(WAVE, REST, since=(0, 1), until=(99, 1)), wanted)
        self.assertEqual(contacts(WAVE, REST, since=(2, 1), until=(10, 1)), wanted)
        self.assertEqual(contacts(WAVE, REST, since=(21, 10), until=(99, 10)), wanted[1:3])
        self.assertEqual(contacts(WAVE, REST, since=(11, 1), until=(11, 1)), wanted[3:])
        self.assertEqual(contacts(WAVE, REST, since=(12, 1), until=(12, 1)), wanted[3:])
        self.assertEqual(contacts(WAVE, REST, since=(8, 1), until=(8, 1)), wanted[2:3])
        self.assertEqual(contacts(WAVE, REST, since=(9, 1), until=(9, 1)), [])
        self.assertEqual(contacts(WAVE, REST, since=(25, 2), until=(99, 1)), [])

    def test_no_end(self):
        forever = [((0, 1), None, 0, 0)]
        self.assertEqual(contacts(REST, REST, since=(0, 1), until=(0, 1)), forever)
        self.assertEqual(contacts(A, A, length=7, since=(50, 1), until=(60, 1)), forever)
        self.assertEqual(contacts(A, table((0, 4)), since=(4, 1), until=(4, 1)), [((4, 1), None, -1, 0)])
        self.assertEqual(contacts(table((0, 4)), A, since=(9, 1), until=(99, 1)), [((4, 1), None, 1, 0)])
        self.assertEqual(contacts(A, table((0, 4)), since=(0, 1), until=(3, 1)), [])
        self.assertEqual(contacts(A, table((0, -1)), length=5, since=(0, 1), until=(5, 1)), [((4, 1), None, -1, 0)])

    def test_at_the_begin(self):
        self.assertEqual(contacts(A, REST, since=(0, 1), until=(1, 1)), [((0, 1), (0, 1), 0, 1)])
        self.assertEqual(contacts(REST, A, since=(0, 1), until=(1, 1)), [((0, 1), (0, 1), 0, -1)])
        late = table((0, 0), (2, 0), (3, -1))
        self.assertEqual(contacts(late, REST, since=(1, 1), until=(9, 1)), [((0, 1), (2, 1), 0, -1)])

    def test_begins_that_differ(self):
        late = table((1, 1), (2, 2), (3, 4))
        self.assertEqual(contacts(late, A, since=(1, 1), until=(9, 1)),
                         [((1, 1), (2, 1), 0, 1), ((4, 1), None, 1, 0)])
        self.assertEqual(contacts(A, Timetable.resting((4, 1), (4, 1)), since=(4, 1), until=(5, 1)),
                         [((4, 1), None, 0, 0)])
        self.assertEqual(contacts(Timetable.resting((-3, 1), (1, 1)), A, since=(0, 1), until=(5, 1)),
                         [((1, 1), (1, 1), 1, -1)])
        self.assertEqual(contacts(A, Timetable.resting((3, 1), (1, 1)), since=(3, 1), until=(50, 1)), [])

    def test_ring(self):
        wanted = [((5, 1), (5, 1), -1, 1), ((15, 1), (15, 1), -1, 1)]
        self.assertEqual(contacts(C, D, length=10, since=(0, 1), until=(20, 1)), wanted)
        self.assertEqual(contacts(C, D, length=10, since=(6, 1), until=(15, 1)), wanted[1:])
        self.assertEqual(contacts(D, C, length=10, since=(5, 1), until=(14, 1)), [((5, 1), (5, 1), 1, -1)])
        bounce = table((0, 1), (1, 3), (2, 1), (3, 0), (4, 0), (5, 2))
        self.assertEqual(contacts(bounce, REST, length=3, since=(0, 1), until=(9, 1)),
                         [((1, 1), (1, 1), -1, -1), ((3, 1), (4, 1), 1, 1)])

    def test_over_many_knots(self):
        one = table((0, -1), *[(k, k % 3) for k in range(1, 38)], (38, 5))
        other = table((0, 2), *[(k, k % 3) for k in range(1, 38)], (39, 0))
        self.assertEqual(contacts(one, other, since=(20, 1), until=(20, 1)), [((1, 1), (37, 1), -1, 1)])
        self.assertEqual(contacts(one, other.moved((15, 1)), length=5, since=(2, 1), until=(3, 1)),
                         [((1, 1), (37, 1), -1, 1)])
        # The knots of both are at different times, but the positions are the same.
        one = table((0, 0), (1, 1), (3, 3), (5, 5), (6, 7))
        other = table((0, 0), (2, 2), (4, 4), (5, 5), (6, 4))
        self.assertEqual(contacts(one, other, since=(0, 1), until=(9, 1)), [((0, 1), (5, 1), 0, 1)])

    def test_very_many_laps_away(self):
        far = 10 ** 18 * 7
        one = table((0, far + 1), (4, far + 9), (6, far - 5))
        for shift in [far, -far, HUGE * 7, 0]:
            moved = one.moved((shift, 1))
            self.assertEqual(contacts(moved, REST, length=7, since=(0, 1), until=(99, 1)),
                             [((3, 1), (3, 1), -1, 1), ((30, 7), (30, 7), 1, -1), ((37, 7), (37, 7), 1, -1)])

    def test_few_of_very_many(self):
        fast = table((0, 0), (1, HUGE * 10))
        found = contacts(fast, REST, length=10, since=(1, 2 * HUGE), until=(3, HUGE))
        self.assertEqual(found, [(frac(Fraction(k, HUGE)),) * 2 + (-1, 1) for k in [1, 2, 3]])
        found = contacts(REST, fast, length=10, since=frac(1 - Fraction(3, 2 * HUGE)), until=(5, 1))
        self.assertEqual(found, [(frac(1 - Fraction(1, HUGE)),) * 2 + (1, -1), ((1, 1), None, 1, 0)])

    def test_against_a_slow_way(self):
        for one, other, length, dice in random_pairs(1500, 7):
            every = slow_contacts(one, other, length)
            since = random_time(dice, later_begin(one, other))
            until = random_time(dice, since)
            wanted = [found for found in every if number(found[0]) <= until
                      and (found[1] is None or number(found[1]) >= since)]
            self.assertEqual(contacts(one, other, length=length, since=frac(since), until=frac(until)), wanted)


class LapsTest(unittest.TestCase):
    """Item 8."""

    def test_line(self):
        self.assertEqual([laps(A, B, (t, 2)) for t in range(10)], [-1] * 4 + [0] * 6)
        self.assertEqual([laps(B, A, (t, 2)) for t in range(10)], [0] * 5 + [-1] * 5)
        self.assertEqual(laps(table((0, HUGE)), table((0, -HUGE)), (0, 1)), 0)
        self.assertEqual(laps(table((0, -HUGE)), table((0, HUGE)), (0, 1), length=None), -1)

    def test_ring(self):
        places = [Fraction(x, 2) for x in range(-25, 26)]
        for length in [1, 2, 5]:
            found = [laps(table((0, x)), REST, (3, 1), length=length) for x in places]
            self.assertEqual(found, [x // length for x in places])
            found = [laps(REST, table((0, x)), (3, 1), length=length) for x in places]
            self.assertEqual(found, [-x // length for x in places])
        self.assertEqual(laps(table((0, -HUGE * 3)), REST, (0, 1), length=3), -HUGE)
        self.assertEqual(laps(table((0, Fraction(-HUGE * 3 - 1, 7))), REST, (0, 1), length=10 ** 58), -5)

    def test_against_a_slow_way(self):
        for one, other, length, dice in random_pairs(300, 8):
            t = random_time(dice, later_begin(one, other))
            gap = height(one, t) - height(other, t)
            wanted = gap // length if length is not None else -1 if gap < 0 else 0
            self.assertEqual(laps(one, other, frac(t), length=length), wanted)


class CrossingCountsTest(unittest.TestCase):
    """Item 9."""

    def counts(self, since, until, length=None):
        return crossing_counts(WAVE, REST, length=length, since=frac(since), until=frac(until))

    def test_since_counts_and_until_does_not(self):
        self.assertEqual(self.counts(0, 99), (2, 1))
        self.assertEqual(self.counts(2, 5), (1, 0))
        self.assertEqual(self.counts(2, 6), (1, 1))
        self.assertEqual(self.counts(0, 2), (0, 0))
        self.assertEqual(self.counts(2, 2), (0, 0))
        # The contact from 10 to 12 is a crossing at its end.
        self.assertEqual(self.counts(10, 12), (0, 0))
        self.assertEqual(self.counts(11, Fraction(121, 10)), (1, 0))
        self.assertEqual(self.counts(12, 13), (1, 0))
        self.assertEqual(self.counts(Fraction(121, 10), 50), (0, 0))

    def test_no_crossings(self):
        touch = table((0, -1), (1, 0), (2, -1), (3, 0), (4, 0), (5, -1))
        begun_with_both = table((0, 0), (1, 1))
        stays = table((0, 1), (1, 0))
        for one in [touch, begun_with_both, stays, REST, table((0, 0), (1, 0), (2, -1))]:
            for length in [None, 3]:
                self.assertEqual(crossing_counts(one, REST, length=length, since=(0, 1), until=(9, 1)), (0, 0))
                self.assertEqual(crossing_counts(REST, one, length=length, since=(0, 1), until=(9, 1)), (0, 0))
        late = Timetable.resting((2, 1), (2, 1))
        self.assertEqual(crossing_counts(A, late, since=(2, 1), until=(9, 1)), (0, 0))

    def test_any_number(self):
        fast = table((0, 0), (1, HUGE), (2, HUGE), (3, -HUGE))
        self.assertEqual(crossing_counts(fast, REST, length=1, since=(0, 1), until=(9, 1)), (HUGE - 1, 2 * HUGE - 1))
        # At 1 it touches the level at which it stays until 2, and at 3 one at which it stays forever.
        self.assertEqual(crossing_counts(fast, REST, length=10, since=(0, 1), until=(1, 2)), (HUGE // 20 - 1, 0))
        self.assertEqual(crossing_counts(REST, fast, length=10, since=(1, 2), until=(1, 1)), (0, HUGE // 20))
        through = table((0, Fraction(-1, 2)), (1, HUGE + Fraction(1, 2)))
        self.assertEqual(crossing_counts(through, REST, length=1, since=(0, 1), until=(1, 1)), (HUGE + 1, 0))
        self.assertEqual(crossing_counts(through, REST, since=(0, 1), until=(1, 1)), (1, 0))

    def test_against_a_slow_way(self):
        for one, other, length, dice in random_pairs(1500, 9):
            every = slow_crossings(one, other, length)
            since = random_time(dice, later_begin(one, other))
            until = random_time(dice, since)
            ways = [way for t, way in every if since <= number(t) < until]
            found = crossing_counts(one, other, length=length, since=frac(since), until=frac(until))
            self.assertEqual(found, (ways.count(1), ways.count(-1)))


class CrossingsTest(unittest.TestCase):
    """Item 10."""

    def test_ascending_from_since_on(self):
        wanted = [((2, 1), 1), ((5, 1), -1), ((12, 1), 1)]
        self.assertEqual(list(crossings(WAVE, REST, since=(0, 1))), wanted)
        self.assertEqual(list(crossings(WAVE, REST, since=(5, 1))), wanted[1:])
        self.assertEqual(list(crossings(WAVE, REST, since=(51, 10))), wanted[2:])
        self.assertEqual(list(crossings(WAVE, REST, since=(12, 1))), wanted[2:])
        self.assertEqual(list(crossings(WAVE, REST, since=(121, 10))), [])
        self.assertEqual(list(crossings(C, D, length=10, since=(6, 1))), [((15, 1), 1)])
        self.assertEqual(list(crossings(D, C, length=10, since=(5, 1))), [((5, 1), -1), ((15, 1), -1)])

    def test_each_item_when_it_is_requested(self):
        fast = table((0, Fraction(1, 2)), (1, HUGE * 10))
        found = first(crossings(fast, REST, length=1, since=(0, 1)), 2000)
        pace = HUGE * 10 - Fraction(1, 2)
        self.assertEqual(found, [(frac((k - Fraction(1, 2)) / pace), 1) for k in range(1, 2001)])
        found = first(crossings(REST, fast, length=1, since=(1, 2)), 3)
        start = HUGE * 5 + 1
        self.assertEqual(found, [(frac((k - Fraction(1, 2)) / pace), -1) for k in range(start, start + 3)])

    def test_errors_with_the_first_item(self):
        for arguments, error in [({"length": 0, "since": (0, 1)}, NoTrack), ({"length": 2, "since": (-1, 1)}, NoTime)]:
            items = crossings(A, B, **arguments)
            with self.assertRaises(error):
                next(items)

    def test_is_a_generator(self):
        items = crossings(C, D, length=10, since=(0, 1))
        self.assertTrue(inspect.isgenerator(items))
        self.assertEqual(next(items), ((5, 1), 1))
        self.assertEqual(next(items), ((15, 1), 1))
        with self.assertRaises(StopIteration):
            next(items)

    def test_against_a_slow_way(self):
        for one, other, length, dice in random_pairs(800, 10):
            since = random_time(dice, later_begin(one, other))
            wanted = [found for found in slow_crossings(one, other, length) if number(found[0]) >= since]
            self.assertEqual(list(crossings(one, other, length=length, since=frac(since))), wanted)


def calls(one, other, length, since, until):
    """All four functions as functions of nothing, each with its last items requested."""
    return [
        lambda: contacts(one, other, length=length, since=since, until=until),
        lambda: crossing_counts(one, other, length=length, since=since, until=until),
        lambda: laps(one, other, since, length=length),
        lambda: list(crossings(one, other, length=length, since=since)),
    ]


class ErrorsTest(unittest.TestCase):
    """Item 11."""

    def test_no_track(self):
        lengths = [value for value in ODD_VALUES if value is not None]
        for length in lengths:
            for since, until in [((0, 1), (1, 1)), ((-1, 1), (1, 1)), ((3, 1), (2, 1))]:
                for call in calls(A, B, length, since, until):
                    with self.assertRaises(NoTrack, msg=length):
                        call()

    def test_lengths(self):
        for length in [None, 1, 2, 10 ** 60 - 1]:
            for call in calls(A, B, length, (0, 1), (1, 1)):
                call()

    def test_no_time(self):
        late = A.later((1, 1))
        for one, other, since in [(A, B, (-1, 100)), (late, B, (1, 2)), (A, late, (0, 1)), (late, late, (-5, 1))]:
            for length in [None, 3]:
                for call in calls(one, other, length, since, (9, 1)):
                    with self.assertRaises(NoTime):
                        call()

    def test_until_before_since(self):
        for since, until in [((3, 1), (2, 1)), ((1, 2), (1, 3)), ((0, 1), (-1, 1)), ((50, 1), (49, 1))]:
            for length in [None, 3]:
                for call in calls(A, B, length, since, until)[:2]:
                    with self.assertRaises(NoTime):
                        call()

    def test_at_the_later_begin(self):
        late = A.later((1, 1))
        self.assertEqual(contacts(A, late, since=(1, 1), until=(1, 1)), [])
        self.assertEqual(crossing_counts(late, A, since=(1, 1), until=(1, 1)), (0, 0))
        self.assertEqual(laps(late, A, (1, 1)), -1)
        self.assertEqual(laps(A, late, (1, 1), length=1), 1)
        self.assertEqual(list(crossings(A, late, since=(1, 1))), [])

    def test_check_changes_nothing(self):
        kept = (A.knots(), B.knots())
        length = [1]
        for call in calls(A, B, length, (0, 1), (1, 1)) + calls(A, B, None, (-1, 1), (0, 1)):
            with self.assertRaises(ValueError):
                call()
        self.assertEqual((A.knots(), B.knots(), length), (*kept, [1]))


class TogetherTest(unittest.TestCase):
    """Item 12: what the four functions say of each other."""

    def apart(self, one, other, t, length):
        return contacts(one, other, length=length, since=t, until=t) == []

    def test_growth_of_the_laps(self):
        many = 0
        for one, other, length, dice in random_pairs(1500, 12):
            since = random_time(dice, later_begin(one, other))
            until = random_time(dice, since)
            since, until = frac(since), frac(until)
            if self.apart(one, other, since, length) and self.apart(one, other, until, length):
                forward, backward = crossing_counts(one, other, length=length, since=since, until=until)
                grown = laps(one, other, until, length=length) - laps(one, other, since, length=length)
                self.assertEqual(forward - backward, grown)
                many += grown != 0
        self.assertGreater(many, 100)

    def test_growth_of_very_many_laps(self):
        half = Fraction(1, 2)
        wild = table((0, half), (1, HUGE), (2, HUGE), (3, -HUGE * 7 - 4), (4, 3 * HUGE + half), (5, half + 1))
        for length in [None, 1, 2, 7, 10 ** 30]:
            for since in range(9):
                for until in range(since, 9):
                    times = [frac(since + Fraction(1, 3)), frac(until + Fraction(1, 3))]
                    if not all(self.apart(wild, REST, t, length) for t in times):
                        continue
                    forward, backward = crossing_counts(wild, REST, length=length, since=times[0], until=times[1])
                    grown = [laps(wild, REST, t, length=length) for t in times]
                    self.assertEqual(forward - backward, grown[1] - grown[0])

    def test_contacts_counts_and_crossings_agree(self):
        for one, other, length, dice in random_pairs(600, 13):
            since = random_time(dice, later_begin(one, other))
            until = random_time(dice, since)
            span = {"length": length, "since": frac(since), "until": frac(until)}
            met = [(end, after) for _, end, before, after in contacts(one, other, **span)
                   if before * after == -1 and number(end) < until]
            seen = [item for item in crossings(one, other, length=length, since=frac(since))
                    if number(item[0]) < until]
            self.assertEqual(met, seen)
            ways = [way for _, way in seen]
            self.assertEqual(crossing_counts(one, other, **span), (ways.count(1), ways.count(-1)))

    def test_neighbouring_spans(self):
        for one, other, length, dice in random_pairs(600, 14):
            low = random_time(dice, later_begin(one, other))
            middle = random_time(dice, low)
            high = random_time(dice, middle)
            low, middle, high = frac(low), frac(middle), frac(high)
            left = crossing_counts(one, other, length=length, since=low, until=middle)
            right = crossing_counts(one, other, length=length, since=middle, until=high)
            whole = crossing_counts(one, other, length=length, since=low, until=high)
            self.assertEqual(whole, (left[0] + right[0], left[1] + right[1]))
            left = contacts(one, other, length=length, since=low, until=middle)
            right = contacts(one, other, length=length, since=middle, until=high)
            whole = contacts(one, other, length=length, since=low, until=high)
            self.assertEqual(whole, left + [found for found in right if found not in left])

    def answers(self, one, other, length, since, until):
        return [call() for call in calls(one, other, length, frac(since), frac(until))]

    def spans(self, many, seed):
        for one, other, length, dice in random_pairs(many, seed):
            since = random_time(dice, later_begin(one, other))
            yield one, other, length, since, random_time(dice, since)

    def test_the_loads_exchanged(self):
        for one, other, length, since, until in self.spans(500, 15):
            met, counts, _, seen = self.answers(one, other, length, since, until)
            met_again, counts_again, _, seen_again = self.answers(other, one, length, since, until)
            self.assertEqual(met_again, [(begin, end, -before, -after) for begin, end, before, after in met])
            self.assertEqual(counts_again, counts[::-1])
            self.assertEqual(seen_again, [(t, -way) for t, way in seen])

    def test_a_long_ring_is_a_line(self):
        for one, other, _, since, until in self.spans(500, 16):
            # All positions are from -5/2 to 5/2.
            for length in [6, 10 ** 60 - 1]:
                self.assertEqual(self.answers(one, other, length, since, until),
                                 self.answers(one, other, None, since, until))

    def test_moved_positions(self):
        for one, other, length, since, until in self.spans(300, 17):
            wanted = self.answers(one, other, length, since, until)
            for x in [(1, 3), (-7, 1), (HUGE, 1)]:
                self.assertEqual(self.answers(one.moved(x), other.moved(x), length, since, until), wanted)
            if length is not None:
                for lap in [1, -4, HUGE]:
                    met, counts, laps_now, seen = wanted
                    moved = one.moved((lap * length, 1))
                    self.assertEqual(self.answers(moved, other, length, since, until),
                                     [met, counts, laps_now + lap, seen])

    def test_later_times(self):
        for one, other, length, since, until in self.spans(300, 18):
            met, counts, laps_now, seen = self.answers(one, other, length, since, until)
            for shift in [Fraction(1, 3), Fraction(-20), Fraction(HUGE)]:
                def later(t):
                    return None if t is None else frac(number(t) + shift)
                wanted = [[(later(begin), later(end), *ways) for begin, end, *ways in met], counts, laps_now,
                          [(later(t), way) for t, way in seen]]
                found = self.answers(one.later(frac(shift)), other.later(frac(shift)), length,
                                     since + shift, until + shift)
                self.assertEqual(found, wanted)


class InterfaceTest(unittest.TestCase):
    def test_names(self):
        for name in ["contacts", "laps", "crossing_counts", "crossings"]:
            self.assertIn(name, pairs.__dict__)


if __name__ == "__main__":
    unittest.main()
