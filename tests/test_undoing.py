"""Items 7 to 9 of keeping, tracks, books and broad: attempts, lists of operations, twins and equal tracks."""

import unittest
from fractions import Fraction
from itertools import permutations

from helper import ODD_VALUES, frac, number
from slow_tracks import SlowTrack, answers_of, operations_of, perform, random_error, random_operation, random_tracks

from handedpast.errors import NoBook, NoRest, NoSpot, NoTable, NoTime, Taken, TrackError
from handedpast.tracks import Track


def knots(*pairs):
    return tuple((frac(t), frac(x)) for t, x in pairs)


def meeting():
    """A track on which a is about to go through b at 1."""
    track = Track()
    track.do([("come", "p", "a", (0, 1)), ("come", "q", "b", (1, 1)), ("lead", "a", knots((2, 2)))])
    return track


class Stop(Exception):
    pass


class Halt(BaseException):
    pass


class AttemptTest(unittest.TestCase):
    """Item 7."""

    def test_result(self):
        track = meeting()
        calls = []

        def work(one):
            calls.append(one)
            one.to((2, 1))
            return ["the", "result"]

        self.assertEqual(track.attempt(work), ["the", "result"])
        self.assertEqual(len(calls), 1)
        self.assertIs(calls[0], track)
        self.assertEqual(track.has("p"), "b")
        self.assertEqual(len(track.book()), 5)
        self.assertIsNone(track.attempt(lambda one: None))
        self.assertEqual(len(track.book()), 5)

    def test_any_exception(self):
        for error in [Stop("x"), Halt(), ValueError(), KeyError("k"), StopIteration(1), GeneratorExit(),
                      KeyboardInterrupt(), AssertionError(), NoTime("none"), RecursionError(), SystemExit(3)]:
            track = meeting()
            before, book = track.twin(), track.book()

            def work(one):
                one.to((2, 1))
                one.come("r", "c", (9, 1))
                one.leave("q")
                raise error

            with self.assertRaises(type(error)) as caught:
                track.attempt(work)
            self.assertIs(caught.exception, error)
            self.assertEqual(track, before)
            self.assertEqual(track.book(), book)
            self.assertEqual(answers_of(track), answers_of(before))
            track.to((2, 1))
            self.assertEqual(track.has("p"), "b")

    def test_errors_of_operations(self):
        track = meeting()
        book = track.book()
        for operation, error in [(("to", (1, 1)), NoTime), (("come", "p", "c", (9, 1)), Taken)]:
            with self.assertRaises(error):
                track.attempt(lambda one: (one.to((2, 1)), perform(one, operation)))
            self.assertEqual((track.book(), track.now), (book, (0, 1)))

    def test_nested(self):
        track = meeting()

        def inner(one):
            one.to((3, 1))
            raise Stop()

        def outer(one):
            one.to((2, 1))
            with self.assertRaises(Stop):
                one.attempt(inner)
            self.assertEqual(one.now, (2, 1))
            one.attempt(lambda same: same.leave("p"))
            return one.carriers()

        twin, before = track.twin(), track.twin()
        self.assertEqual(track.attempt(outer), ["q"])
        self.assertEqual([row[0] for row in track.book()[3:]], ["hand", "to", "leave"])
        with self.assertRaises(Stop):
            twin.attempt(lambda one: (outer(one), inner(one)))
        self.assertEqual(twin, before)
        self.assertEqual(twin.book(), before.book())
        with self.assertRaises(Stop):
            twin.attempt(lambda one: one.attempt(lambda same: same.attempt(inner)))
        self.assertEqual(twin.book(), before.book())

    def test_do_within_and_twin_within(self):
        track = meeting()
        kept = []

        def work(one):
            one.do([("to", (2, 1))])
            kept.append(one.twin())
            one.do([("to", (3, 1)), ("to", (1, 1))])

        with self.assertRaises(NoTime):
            track.attempt(work)
        self.assertEqual((track.now, kept[0].now), ((0, 1), (2, 1)))

    def test_random(self):
        for track, slow, _, dice in random_tracks(150, 121):
            before, book = track.twin(), track.book()
            operation, name, _ = random_error(dice, slow)
            done = []

            def work(one):
                for _ in range(dice.randint(0, 5)):
                    done.append(random_operation(dice, slow))
                    perform(slow, done[-1])
                    perform(one, done[-1])
                raise Stop()

            with self.assertRaises(Stop):
                track.attempt(work)
            self.assertEqual(track, before)
            self.assertEqual(track.book(), book)
            self.assertIsNone(track.do(done))
            self.assertEqual(track.book(), slow.log)


class DoTest(unittest.TestCase):
    """Item 8."""

    def test_all(self):
        for track, slow, length, _ in random_tracks(80, 122):
            other = Track(length=length)
            rows = operations_of(slow.log)
            self.assertIsNone(other.do(rows))
            self.assertEqual(other, track)
            self.assertEqual(other.book(), track.book())
            other = Track(length=length)
            self.assertIsNone(other.do(tuple(rows)))
            self.assertEqual(other.book(), track.book())
        track = meeting()
        self.assertIsNone(track.do([]))
        self.assertEqual(len(track.book()), 3)

    def test_none(self):
        for track, slow, _, dice in random_tracks(200, 123):
            before, book = track.twin(), track.book()
            rows = []
            for _ in range(dice.randint(0, 4)):
                rows.append(random_operation(dice, slow))
                perform(slow, rows[-1])
            operation, name, _ = random_error(dice, slow)
            rows = rows + [operation, ("to", (10 ** 9, 1))]
            kept = list(rows)
            with self.assertRaises(TrackError) as caught:
                track.do(rows)
            self.assertEqual(type(caught.exception).__name__, name)
            self.assertEqual(rows, kept)
            self.assertEqual(track, before)
            self.assertEqual(track.book(), book)

    def test_no_book(self):
        good = ("to", (1, 1))
        wrong = ODD_VALUES + [
            None, "to", ["to", (1, 1)], ("to",), ("to", (1, 1), 1), ("To", (1, 1)), ("hand", (1, 1)), ("has", "p"),
            ("come", "r", "c"), ("come", "r", "c", (5, 1), 1), ("lead", "a"), ("lead", "b", knots((9, 1)), 1),
            ("leave",), ("leave", "q", "p"), ("twin",), ("book",), ("attempt", None), ("do", []), ("_perform", good),
            (["to"], (1, 1)), (None, (1, 1)), (1, 2), ({"to": 1}, (1, 1)), (("to",), (1, 1)), {"to": (1, 1)},
        ]
        for item in wrong:
            for rows in [[item], [good, item], [good, good, item, item], (good, ("to", "no time"), item, ("to",))]:
                track = meeting()
                before = track.twin()
                with self.assertRaises(NoBook, msg=item) as caught:
                    track.do(rows)
                self.assertEqual(caught.exception.row, [row is item for row in rows].index(True))
                self.assertEqual(track, before)
                self.assertEqual(track.book(), before.book())

    def test_no_list(self):
        for value in [value for value in ODD_VALUES if not isinstance(value, (list, tuple))] + [None, "to", good_dict()]:
            with self.assertRaises(NoBook) as caught:
                meeting().do(value)
            self.assertEqual(caught.exception.row, 0)

    def test_errors_of_arguments(self):
        for row, error in [(("to", None), NoTime), (("lead", "b", None), NoTable), (("come", "r", "c", None), NoSpot),
                           (("lead", "a", None), NoRest)]:
            with self.assertRaises(error):
                meeting().do([("to", (1, 1)), row, ("to", (0, 1))])


def good_dict():
    return {0: ("to", (1, 1))}


def probes(one, other):
    """Whether two tracks give different answers, now or after further operations."""
    if answers_of(one) != answers_of(other):
        return True
    rests = [load for load in answers_of(one)[4] if may_lead(one, load)]
    if rests != [load for load in answers_of(other)[4] if may_lead(other, load)]:
        return True
    for load in rests:
        for step in (-3, 3):
            if further([one.twin(), other.twin()], load, step):
                return True
    return False


def may_lead(track, load):
    try:
        track.twin().lead(load, [(frac(number(track.now) + 1), (0, 1))])
    except NoRest:
        return False
    return True


def further(twins, load, step):
    """Whether the answers differ after this load alone has moved on."""
    for twin in twins:
        t, x = number(twin.now), number(twin.at(load))
        twin.lead(load, [(frac(t + Fraction(1, 9)), frac(x + Fraction(step, 1000)))])
        twin.to(frac(t + 1))
    return answers_of(twins[0]) != answers_of(twins[1])


def slow_differ(one, other, times):
    """Whether two tracks differ, by what they answer at many times from now on."""
    if one.now != other.now or may_come(one) != may_come(other):
        return True
    one, other = one.twin(), other.twin()
    for t in times:
        if number(t) >= number(one.now):
            one.to(t)
            other.to(t)
            if probes(one, other):
                return True
    return False


def may_come(track):
    """At which of many places somebody may come."""
    found = []
    for x in range(-60, 120):
        try:
            twin = track.twin()
            twin.come("unused", "unused", (x, 1))
            # On a ring two who come a lap apart are at one spot.
            twin.come("also", "also", (x + 50, 1))
            found.append(x)
        except (NoSpot, Taken):
            pass
    return found


class EqualTest(unittest.TestCase):
    """Item 9."""

    def test_twins(self):
        for track, slow, length, dice in random_tracks(150, 124):
            twin = track.twin()
            self.assertIsNot(twin, track)
            self.assertTrue(twin == track and track == twin and not track != twin)
            self.assertEqual(answers_of(twin), answers_of(track))
            self.assertEqual(twin.book(), track.book())
            answers, book = answers_of(track), track.book()
            for _ in range(4):
                operation = random_operation(dice, slow)
                perform(slow, operation)
                perform(twin, operation)
            self.assertEqual((answers_of(track), track.book()), (answers, book))
            self.assertEqual(twin.book(), slow.log)
            track.do(operations_of(slow.log[len(book):]))
            self.assertEqual(track, twin)
            self.assertEqual(track.book(), twin.book())

    def test_returned_books(self):
        track = meeting()
        book = track.book()
        book.clear()
        track.book().append(1)
        self.assertEqual(len(track.book()), 3)
        twin = track.twin()
        twin.to((1, 1))
        self.assertEqual((len(track.book()), len(twin.book())), (3, 4))

    def test_other_values(self):
        for track in [Track(), meeting()]:
            for value in ODD_VALUES + [None, track.book(), "track", SlowTrack(None), object()]:
                self.assertFalse(track == value)
                self.assertFalse(value == track)
                self.assertTrue(track != value)
        self.assertEqual(Track(), Track(length=None))
        self.assertEqual(Track(length=3), Track(length=3))

    def test_lengths(self):
        rows = [("come", "p", "a", (0, 1)), ("come", "q", "b", (1, 1))]
        made = []
        for length in [None, 2, 3, 10 ** 30]:
            for operations in [[], rows]:
                made.append(Track(length=length))
                made[-1].do(operations)
        for k, one in enumerate(made):
            for j, other in enumerate(made):
                self.assertEqual(one == other, j == k)

    def changed(self, *rows):
        track = Track(length=10)
        track.do([("come", "p", "a", (0, 1)), *rows, ("to", (3, 1))])
        return track

    def test_last_knots(self):
        rest = self.changed()
        # The same position from now on, with a last knot later than now, and not.
        for ways, same in [([(3, 0)], True), ([(2, 7), (3, 0)], True), ([(1, 0), (2, 0)], True), ([(4, 0)], False),
                           ([(1, 5), (2, 0), (4, 0)], False)]:
            other = self.changed(("lead", "a", knots(*ways)))
            self.assertEqual(rest == other, same)
            self.assertEqual(other == rest, same)
            self.assertEqual(slow_differ(rest, other, [(3, 1), (4, 1), (5, 1)]), not same)
            other.to((4, 1))
            rest_later = rest.twin()
            rest_later.to((4, 1))
            self.assertEqual(other, rest_later)
        for one, other, same in [([(4, 8)], [(1, 2), (4, 8)], True), ([(4, 8)], [(2, 0), (3, 6), (4, 8)], True),
                                 ([(4, 0), (5, 0)], [(5, 0)], True), ([(4, 0)], [(5, 0)], False),
                                 ([(4, 8)], [(4, 8), (5, 8)], False), ([(4, 8)], [(4, 18)], False),
                                 ([(5, 10)], [(4, 8), (5, 9)], False)]:
            one, other = self.changed(("lead", "a", knots(*one))), self.changed(("lead", "a", knots(*other)))
            self.assertEqual(one == other, same)
            self.assertEqual(slow_differ(one, other, [(k, 2) if k % 2 else (k // 2, 1) for k in range(6, 14)]), not same)

    def test_positions_and_names(self):
        tracks = [self.changed(), self.changed(("come", "q", "b", (5, 1))), self.changed(("come", "q", "b", (15, 1))),
                  self.changed(("come", "q", "c", (5, 1))), self.changed(("come", "r", "b", (5, 1))),
                  self.changed(("lead", "a", knots((1, 10)))), self.changed(("lead", "a", knots((1, 1)))),
                  self.changed(("come", "q", "b", (-5, 1)))]
        for k, one in enumerate(tracks):
            for j, other in enumerate(tracks):
                self.assertEqual(one == other, j == k)
        later = self.changed()
        later.to((4, 1))
        self.assertNotEqual(later, self.changed())

    def test_exchanged_carriers(self):
        one, other = Track(), Track()
        one.do([("come", "p", "a", (0, 1)), ("come", "q", "b", (1, 1)), ("lead", "a", knots((2, 2))), ("to", (3, 1))])
        other.do([("come", "p", "b", (1, 1)), ("come", "q", "a", (2, 1)), ("to", (3, 1))])
        # The same loads at the same places, but the carriers have come elsewhere.
        self.assertEqual((one.has("p"), one.where("p")), (other.has("p"), other.where("p")))
        self.assertEqual(one, other)
        self.assertNotEqual(one.book(), other.book())
        one.do([("lead", "a", knots((4, 0))), ("to", (5, 1))])
        self.assertNotEqual(one, other)
        other.do([("lead", "a", knots((4, 0))), ("to", (5, 1))])
        self.assertEqual(one, other)

    def test_coming_in_another_order(self):
        rows = [("come", "q", "a", (25, 1)), ("come", "p", "b", (3, 1)), ("come", "r", "c", (-1, 1)),
                ("come", "s", "d", (107, 1))]
        for length in [None, 10]:
            made = []
            for order in permutations(rows):
                made.append(Track(length=length))
                made[-1].do(order)
            for further in [[], [("lead", "a", knots((9, 60))), ("lead", "c", knots((9, -9))), ("to", (5, 1))],
                            [("to", (9, 1)), ("leave", "p")], [("to", (10, 1)), ("leave", "q"), ("leave", "r")]]:
                for one in made:
                    one.do(further)
                self.assertTrue(all(one == made[0] for one in made))

    def test_loads_exchanged_at_one_spot(self):
        for length in [None, 10]:
            made = []
            for a, b in [(0, 2), (2, 0)]:
                made.append(Track(length=length))
                made[-1].do([("come", "p", "ab"[a // 2], (0, 1)), ("come", "q", "ab"[b // 2], (2, 1)),
                             ("lead", "a", knots((1, 1))), ("lead", "b", knots((1, 1))), ("to", (1, 1))])
            one, other = made
            self.assertEqual([track.where(name) for track in made for name in "pq"], [(1, 1)] * 4)
            self.assertEqual([(track.has("p"), track.has("q")) for track in made], [("a", "b"), ("b", "a")])
            self.assertFalse(one == other)

    def test_together_at_one_spot(self):
        def at_one_spot(length, place):
            track = Track(length=length)
            for load, x in [("a", place), ("b", 2), ("c", 4)]:
                track.come("c" + load, load, (x, 1))
            track.do([("lead", load, knots((1, 6))) for load in "abc"] + [("to", (1, 1))])
            return track

        one, other = at_one_spot(6, 0), at_one_spot(6, 6)
        self.assertEqual(answers_of(one), answers_of(other))
        self.assertFalse(one == other)
        self.assertTrue(slow_differ(one, other, [(1, 1)]))
        self.assertEqual(one, at_one_spot(6, 0))
        # On another ring the way around is the same for both.
        self.assertEqual(answers_of(at_one_spot(60, 0)), answers_of(at_one_spot(60, 0)))
        self.assertFalse(at_one_spot(60, 0) == at_one_spot(60, 6))
        # Once they have parted, only where they are counts.
        for track, steps in [(one, "abc"), (other, "bca")]:
            track.do([("lead", load, knots((2, 6 + k))) for k, load in enumerate(steps)] + [("to", (2, 1))])
        self.assertFalse(one == other)

    def test_against_probes(self):
        same = 0
        for track, slow, length, dice in random_tracks(160, 125, steps=9, lengths=(None, 1, 2, 5)):
            rows = operations_of(slow.log) + [("to", frac(slow.now + 1))]
            track.do(rows[-1:])
            other = self.variant(dice, rows, length, track.now)
            if other is None:
                continue
            times = [frac(number(track.now) + Fraction(k, 4)) for k in range(24)]
            differ = slow_differ(track, other, times)
            self.assertEqual(track == other, not differ, (rows, other.book(), length))
            same += not differ
        self.assertGreater(same, 20)

    def variant(self, dice, rows, length, now):
        """A track with some operation left out, changed or split; None if that raises an error."""
        rows = list(rows)
        k = dice.randrange(len(rows) - 1)
        word = rows[k][0]
        kind = dice.randrange(3)
        if word == "lead":
            here = rows[k][2]
            middle = [((frac((number(t) + number(u)) / 2)), frac((number(x) + number(y)) / 2))
                      for (t, x), (u, y) in zip(here, here[1:])]
            end = (frac(number(here[-1][0]) + Fraction(1, 2)), here[-1][1])
            rows[k] = ("lead", rows[k][1], [tuple(sorted([*here, *middle], key=lambda knot: number(knot[0]))),
                                            here[:-1] or here, (*here, end)][kind])
        elif word == "to":
            before = max([Fraction(0)] + [number(row[1]) for row in rows[:k] if row[0] == "to"])
            rows.insert(k, ("to", frac((before + number(rows[k][1])) / 2)))
        elif kind == 0:
            del rows[k]
        elif word == "come" and length:
            rows[k] = (*rows[k][:3], frac(number(rows[k][3]) + length))
        track = Track(length=length)
        try:
            track.do(rows)
        except TrackError:
            return None
        return track if track.now == now else None


if __name__ == "__main__":
    unittest.main()
