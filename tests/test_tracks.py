"""Items 4 to 6 and 10 of keeping, tracks, books and broad: tracks, their contacts and their errors."""

import inspect
import unittest
from fractions import Fraction

from helper import NAMES, ODD_VALUES, frac, number, spot_number
from slow_tracks import SlowTrack, answers_of, operations_of, perform, random_error, random_later, random_operation
from slow_tracks import random_tracks

from handedpast import errors, tracks
from handedpast.books import wrong_row
from handedpast.errors import NoCarrier, NoName, NoRest, NoSpot, NoTable, NoTime, NoTrack, Taken
from handedpast.tracks import Track

HUGE = 10 ** 45


def knots(*pairs):
    """Knots from pairs of numbers of Python's own."""
    return [(frac(t), frac(x)) for t, x in pairs]


def started(length=None, **places):
    """A track on which loads have come; the carrier of a is ca."""
    track = Track(length=length)
    for load, place in places.items():
        track.come("c" + load, load, frac(place))
    return track


def hands(track):
    """The handovers of the log, with their numbers written shortly."""
    return [(number(t), number(x), " ".join(carriers), " ".join(loads))
            for _, t, x, carriers, loads in (row for row in track.book() if row[0] == "hand")]


class ExamplesTest(unittest.TestCase):
    def test_examples(self):
        track = Track()
        track.come("p", "a", (0, 1))
        track.come("q", "b", (2, 1))
        track.lead("a", [((4, 1), (4, 1))])
        track.to((4, 1))
        self.assertEqual(track.has("p"), "b")
        self.assertEqual(track.where("q"), (4, 1))
        self.assertEqual(track.book()[2:], [
            ("lead", (0, 1), "a", (((4, 1), (4, 1)),)), ("hand", (2, 1), (2, 1), ("p", "q"), ("b", "a")),
            ("to", (4, 1))])

    def test_second_example(self):
        track = Track()
        track.do([("come", "p", "a", (0, 1)), ("come", "q", "b", (2, 1)), ("lead", "a", [((2, 1), (2, 1))]),
                  ("to", (2, 1))])
        self.assertEqual(track.has("p"), "a")
        track.do([("lead", "a", [((3, 1), (3, 1))]), ("to", (3, 1))])
        self.assertEqual(track.book()[-2:], [("hand", (2, 1), (2, 1), ("p", "q"), ("b", "a")), ("to", (3, 1))])

    def test_interface(self):
        wanted = {"come": "(self, carrier, load, place)", "lead": "(self, load, knots)", "leave": "(self, carrier)",
                  "to": "(self, t)", "carriers": "(self)", "has": "(self, carrier)", "where": "(self, carrier)",
                  "at": "(self, load)", "attempt": "(self, work)", "do": "(self, operations)", "book": "(self)",
                  "twin": "(self)", "__eq__": "(self, other)", "__init__": "(self, *, length=None)"}
        for name, signature in wanted.items():
            self.assertEqual(str(inspect.signature(Track.__dict__[name])), signature)
        self.assertIsInstance(Track.__dict__["now"], property)
        self.assertEqual(Track.__module__, tracks.__name__)

    def test_parameter_names(self):
        track = Track(length=10)
        self.assertIsNone(track.come(place=(25, 1), load="a", carrier="p"))
        self.assertIsNone(track.lead(knots=knots((2, 27)), load="a"))
        self.assertIsNone(track.to(t=(2, 1)))
        self.assertEqual((track.has(carrier="p"), track.where(carrier="p"), track.at(load="a")),
                         ("a", (27, 1), (27, 1)))
        self.assertIsNone(track.do(operations=[("to", (3, 1))]))
        self.assertEqual(track.attempt(work=lambda one: one.now), (3, 1))
        self.assertIsNone(track.leave(carrier="p"))
        self.assertEqual(track.carriers(), [])


class TrackTest(unittest.TestCase):
    """Item 4."""

    def test_empty(self):
        for length in [None, 1, 10 ** 60 - 1]:
            track = Track(length=length)
            self.assertEqual((track.now, track.carriers(), track.book()), ((0, 1), [], []))
            track.to((0, 1))
            track.to((7, 2))
            self.assertEqual((track.now, track.carriers()), ((7, 2), []))
            self.assertEqual(track.book(), [("to", (0, 1)), ("to", (7, 2))])

    def test_now_is_not_assigned(self):
        track = Track()
        with self.assertRaises(AttributeError):
            track.now = (1, 1)
        self.assertEqual(track.now, (0, 1))

    def test_unrolled_positions(self):
        track = Track(length=10)
        track.come("p", "a", (25, 1))
        track.come("q", "b", (-3, 1))
        self.assertEqual((track.where("p"), track.at("a"), track.where("q"), track.at("b")),
                         ((25, 1), (25, 1), (-3, 1), (-3, 1)))
        track.lead("a", knots((10, 45)))
        track.to((10, 1))
        # From 25 to 27, while b rests there, to 35 and, after another lap of a, on to 37.
        self.assertEqual(hands(track), [(1, 7, "p q", "b a"), (6, 7, "q p", "b a")])
        self.assertEqual((track.where("p"), track.at("a"), track.where("q"), track.at("b")),
                         ((35, 1), (45, 1), (7, 1), (-3, 1)))
        self.assertEqual((track.has("p"), track.has("q")), ("a", "b"))

    def test_carriers(self):
        track = started(z=3, b=-1, k=10, a=0)
        self.assertEqual(track.carriers(), ["cb", "ca", "cz", "ck"])
        track = started(length=4, z=3, b=-2, k=13)
        self.assertEqual(track.carriers(), ["cb", "cz", "ck"])
        track.come("aa", "x", (0, 1))
        self.assertEqual(track.carriers(), ["aa", "ck", "cb", "cz"])
        names = track.carriers()
        names.clear()
        self.assertEqual(len(track.carriers()), 4)

    def test_to_the_same_time(self):
        track = started(a=0, b=1)
        track.lead("a", knots((1, 1), (2, 2)))
        track.to((1, 1))
        for _ in range(3):
            track.to((1, 1))
            self.assertEqual((track.has("ca"), track.where("ca"), hands(track)), ("a", (1, 1), []))
        self.assertEqual(track.book()[-4:], [("to", (1, 1))] * 4)
        track.to((1001, 1000))
        self.assertEqual(track.book()[-2:], [("hand", (1, 1), (1, 1), ("ca", "cb"), ("b", "a")), ("to", (1001, 1000))])

    def test_operations_see_what_carriers_brought(self):
        track = started(a=0, b=1)
        track.lead("a", knots((1, 1)))
        track.to((1, 1))
        twin = track.twin()
        # a is with b now, and its carrier leaves with it.
        track.leave("ca")
        self.assertEqual((track.carriers(), track.has("cb")), (["cb"], "b"))
        track.lead("b", knots((2, 0)))
        track.to((3, 1))
        self.assertEqual(hands(track), [])
        # Led back, it does not cross b.
        twin.lead("a", knots((2, 0)))
        twin.to((2, 1))
        self.assertEqual((hands(twin), twin.has("ca")), ([], "a"))

    def test_three_at_a_spot(self):
        track = started(a=0, b=1, c=2)
        track.lead("a", knots((1, 1), (2, 2)))
        track.lead("c", knots((1, 1), (2, 0)))
        track.to((1, 1))
        self.assertEqual([track.where(name) for name in track.carriers()], [(1, 1)] * 3)
        twin = track.twin()
        track.to((2, 1))
        self.assertEqual(hands(track), [(1, 1, "ca cb cc", "c b a")])
        twin.leave("cb")
        twin.to((2, 1))
        self.assertEqual(hands(twin), [(1, 1, "ca cc", "c a")])

    def test_order_of_handovers(self):
        track = started(length=10, a=0, b=1, c=-1, d=18)
        track.lead("a", knots((2, 2)))
        track.lead("c", knots((2, -3)))
        track.to((2, 1))
        self.assertEqual(hands(track), [(1, 1, "ca cb", "b a"), (1, 8, "cd cc", "c d")])
        # On the spot 0, the order is that of the copies there.
        track = started(length=10, a=9, b=1)
        track.lead("a", knots((2, 11)))
        track.lead("b", knots((2, -1)))
        track.to((3, 1))
        self.assertEqual(hands(track), [(1, 0, "ca cb", "b a")])

    def test_no_load_left_behind(self):
        track = started(a=0)
        track.leave("ca")
        self.assertEqual(track.carriers(), [])
        track.come("cb", "a", (0, 1))
        track.come("ca", "b", (5, 1))
        self.assertEqual(track.carriers(), ["cb", "ca"])

    def test_knots_before_now_do_not_count(self):
        track = started(a=0)
        for turn in range(5):
            track.lead("a", knots(*[(40 * turn + k, k % 3) for k in range(1, 40)]))
            track.to((40 * turn + 39, 1))
        self.assertEqual(track.at("a"), (0, 1))

    def test_random(self):
        rows = 0
        for track, slow, length, dice in random_tracks(600, 111):
            self.assertEqual(track.book(), slow.log)
            self.assertEqual(answers_of(track), slow.answers())
            rows += len(hands(track))
        self.assertGreater(rows, 500)

    def test_answers_at_every_step(self):
        for track, _, length, dice in random_tracks(60, 112):
            one, slow = Track(length=length), SlowTrack(length)
            for operation in operations_of(track.book()):
                self.assertIsNone(perform(one, operation))
                perform(slow, operation)
                self.assertEqual(answers_of(one), slow.answers())
                self.assertEqual(one.book(), slow.log)
                self.check_conditions(one, length)

    def check_conditions(self, track, length):
        """Guarantees (a) and (c)."""
        carriers = track.carriers()
        loads = [track.has(name) for name in carriers]
        self.assertEqual(len(set(loads)), len(loads))
        places = [number(track.where(name)) for name in carriers]
        for place, load in zip(places, loads):
            self.assertEqual(spot_number(place - number(track.at(load)), length), 0)
        if length is None:
            self.assertEqual(places, sorted(places))
        # A lap is shared by the ways from each carrier to the next.
        elif len(set(spot_number(place, length) for place in places)) > 1:
            gaps = [spot_number(two - one, length) for one, two in zip(places, places[1:] + places[:1])]
            self.assertEqual(sum(gaps), length)


class ContactsTest(unittest.TestCase):
    """Item 5."""

    def together(self, length, laps):
        """a comes from behind to b, and goes on with it."""
        place = 3 + (length or 0) * laps
        track = started(length=length, a=0, b=place)
        track.lead("a", knots((3, 3)))
        track.to((3, 1))
        return track, place

    def test_they_keep_their_order(self):
        for length, laps in [(None, 0), (10, 0), (10, 7), (10, -7), (4, 10 ** 40)]:
            track, place = self.together(length, laps)
            for k in range(4, 10):
                x = (-1) ** k * k
                track.lead("a", knots((k, x)))
                track.lead("b", knots((k, place - 3 + x)))
                track.to((k, 1))
                self.assertEqual((track.has("ca"), track.has("cb")), ("a", "b"))
            self.assertEqual(hands(track), [])
            twin = track.twin()
            for one, step, wanted in [(track, 1, 1), (twin, -1, 0)]:
                one.lead("a", knots((10, number(one.at("a")) + step)))
                one.to((10, 1))
                # They part: in front of b they have crossed, behind it not.
                self.assertEqual(len(hands(one)), wanted)
                self.assertEqual(one.has("ca"), "b" if wanted else "a")

    def test_led_together_at_one_time(self):
        track, _ = self.together(None, 0)
        track.lead("a", knots((4, 5), (5, 0)))
        track.lead("b", knots((4, 4), (5, 5)))
        track.to((5, 1))
        self.assertEqual([row[0] for row in hands(track)], [3, Fraction(25, 6)])

    def test_order_before_the_contact_counts(self):
        # b comes to a from the front, they wait, and b goes through.
        track = started(a=0, b=2)
        track.lead("b", knots((2, 0), (5, 0)))
        track.to((4, 1))
        track.lead("a", knots((5, 0)))
        track.to((5, 1))
        twin = track.twin()
        track.lead("b", knots((6, -1)))
        track.to((6, 1))
        self.assertEqual(hands(track), [(5, 0, "ca cb", "b a")])
        twin.lead("a", knots((6, -1)))
        twin.to((6, 1))
        self.assertEqual(hands(twin), [])

    def test_all_at_one_spot_of_a_ring(self):
        """The way around is open between two neighbours only, which differ here."""
        for place, rearmost in [(0, "a"), (6, "b")]:
            track = started(length=6, a=place, b=2, c=4)
            track.do([("lead", load, knots((1, 6))) for load in "abc"] + [("to", (1, 1))])
            self.assertEqual([track.where(name) for name in track.carriers()], [(6, 1)] * 3)
            self.assertEqual((track.carriers(), hands(track)), (["ca", "cb", "cc"], []))
            order = "abc" if rearmost == "a" else "bca"
            for k, load in enumerate(order):
                twin = track.twin()
                twin.lead(load, knots((2, 7)))
                twin.to((2, 1))
                ahead = order[k:]
                carriers, loads = " ".join("c" + name for name in order), " ".join(order[:k] + ahead[1:] + load)
                self.assertEqual(hands(twin), [(1, 0, carriers, loads)] if k < 2 else [])
                self.assertEqual(twin.where("c" + order[-1]), (7, 1))


class ErrorsTest(unittest.TestCase):
    """Item 6."""

    def check(self, track, error, operation, value=None):
        before, book = track.twin(), track.book()
        with self.assertRaises(error, msg=operation) as caught:
            perform(track, operation)
        self.assertIs(type(caught.exception), error)
        if error in (NoName, Taken):
            self.assertEqual(caught.exception.name, value)
            self.assertIs(type(caught.exception.name), type(value))
        self.assertEqual(track, before)
        self.assertEqual(track.book(), book)

    def test_no_track(self):
        for length in [value for value in ODD_VALUES if value is not None]:
            with self.assertRaises(NoTrack):
                Track(length=length)
        Track(length=None)
        with self.assertRaises(TypeError):
            Track(10)

    def test_come(self):
        for length in [None, 10]:
            track = started(length=length, a=0, b=3)
            track.lead("a", knots((2, 2)))
            track.to((1, 1))
            for value in [value for value in ODD_VALUES if value != "a"] + ["A", "abcdefghi", " ", "\u00e4", "a\n"]:
                self.check(track, NoName, ("come", value, value, value), value)
                self.check(track, NoName, ("come", value, 7, value), value)
                self.check(track, NoName, ("come", "ca", value, value), value)
                self.check(track, NoName, ("come", "x", value, (0, 1)), value)
            self.check(track, Taken, ("come", "ca", "b", None), "ca")
            self.check(track, Taken, ("come", "cb", "x", (1, 1)), "cb")
            self.check(track, Taken, ("come", "x", "b", None), "b")
            self.check(track, Taken, ("come", "b", "a", (3, 1)), "a")
            for value in ODD_VALUES + [None, 1, "0"]:
                self.check(track, NoSpot, ("come", "x", "y", value))
            for x in [1, 3] + ([-9, 11, 23, 10 ** 60 + 1] if length else []):
                self.check(track, NoSpot, ("come", "x", "y", (x, 1)))
            for x in [0, 2] + ([] if length else [11, 13]):
                track.twin().come("x", "y", (x, 1))
            # The kinds of names are independent.
            track.come("a", "ca", (7, 1))

    def test_lead(self):
        track = started(a=0, b=3)
        track.lead("a", knots((2, 2), (3, 2)))
        for time in [0, 1, 2, Fraction(29, 10)]:
            track.to(frac(time))
            for value in ODD_VALUES + [None, "ca", "abcdefghi"]:
                if value != "a":
                    self.check(track, NoName, ("lead", value, value), value)
            for value in ODD_VALUES + [None, knots((9, 1))]:
                self.check(track, NoRest, ("lead", "a", value))
            for value in ODD_VALUES + [None, knots((time, 1)), knots((time - 1, 1), (9, 1)), knots((5, 1), (4, 1)),
                                       knots((5, 1), (5, 1)), knots(*[(k, 0) for k in range(4, 44)]),
                                       [[(9, 1), (1, 1)]], [((9, 1), (2, 4))], [((9, 1), True)], {(9, 1): (1, 1)}]:
                self.check(track, NoTable, ("lead", "b", value))
        track.twin().lead("b", knots(*[(k, 0) for k in range(4, 43)]))
        track.twin().lead("b", tuple(knots((4, 5))))
        track.to((3, 1))
        track.lead("a", knots((4, 1)))

    def test_leave(self):
        track = started(a=0, b=3)
        track.lead("a", knots((2, 4)))
        for value in ODD_VALUES + [None, "a", "b", "c"]:
            self.check(track, NoCarrier, ("leave", value))
        self.check(track, NoRest, ("leave", "ca"))
        track.to((1, 1))
        self.check(track, NoRest, ("leave", "ca"))
        # The load that counts is the one that the carrier holds now.
        track.to((7, 4))
        self.check(track, NoRest, ("leave", "cb"))
        track.leave("ca")
        self.check(track, NoCarrier, ("leave", "ca"))

    def test_to(self):
        track = started(a=0)
        track.to((5, 2))
        for value in ODD_VALUES + [None, 3, (3, 2), (-3, 1), (249999, 100000), "3", (6, 2), (6, 1, 1)]:
            self.check(track, NoTime, ("to", value))
        track.to((5, 2))

    def test_questions(self):
        track = started(a=0, b=3)
        for value in ODD_VALUES + [None, "c", "b", "abcdefghi"]:
            for ask in (track.has, track.where):
                with self.assertRaises(NoCarrier):
                    ask(value)
            if value not in ("a", "b"):
                with self.assertRaises(NoName) as caught:
                    track.at(value)
                self.assertEqual(caught.exception.name, value)

    def test_random(self):
        seen = set()
        for track, slow, _, dice in random_tracks(400, 113):
            operation, name, value = random_error(dice, slow)
            self.check(track, getattr(errors, name), operation, value)
            seen.add(name)
        self.assertEqual(len(seen), 7)

    def test_arguments_are_copied(self):
        track = started(a=0)
        told = knots((1, 1), (2, 5))
        track.lead("a", told)
        self.assertEqual(told, knots((1, 1), (2, 5)))
        told.clear()
        track.to((2, 1))
        self.assertEqual(track.at("a"), (5, 1))
        self.assertEqual(track.book()[1], ("lead", (0, 1), "a", (((1, 1), (1, 1)), ((2, 1), (5, 1)))))


class StepsTest(unittest.TestCase):
    """Item 10."""

    def test_several_steps(self):
        many = 0
        for track, slow, length, dice in random_tracks(250, 114):
            twin = track.twin()
            times = sorted({random_later(dice, slow) for _ in range(dice.randint(1, 6))} | {slow.now + 5})
            for t in times:
                twin.to(frac(t))
                if dice.random() < 0.3:
                    twin.to(frac(t))
            track.to(frac(times[-1]))
            self.assertEqual(track, twin)
            self.assertEqual(answers_of(track), answers_of(twin))
            self.assertEqual(hands(track), hands(twin))
            many += len(hands(track))
        self.assertGreater(many, 200)

    def test_displacements(self):
        """On a ring no two carriers go further apart than a lap, and all go as far as all loads."""
        for track, slow, length, dice in random_tracks(150, 115, lengths=(1, 2, 3, 5)):
            carriers = track.carriers()
            starts = [number(track.where(name)) for name in carriers]
            loads = [track.has(name) for name in carriers]
            begins = [number(track.at(load)) for load in loads]
            for _ in range(3):
                track.to(frac(number(track.now) + Fraction(dice.randint(1, 6), 2)))
                ways = [number(track.where(name)) - start for name, start in zip(carriers, starts)]
                self.assertEqual(sum(ways), sum(number(track.at(load)) - x for load, x in zip(loads, begins)))
                if ways:
                    # Less, where they were apart at the start.
                    apart = len({spot_number(x, length) for x in starts}) == len(starts)
                    self.assertTrue(max(ways) - min(ways) < length or not apart and max(ways) - min(ways) == length)

    def test_huge_numbers(self):
        for length in [None, HUGE]:
            small, large = Track(length=length and 10), Track(length=length)
            unit = HUGE // 10
            for one, a in [(small, 1), (large, unit)]:
                one.do([("come", "p", "a", (0, 1)), ("come", "q", "b", (7 * a, 1)),
                        ("lead", "a", knots((30 * a, 60 * a))), ("lead", "b", knots((30 * a, -9 * a))),
                        ("to", (50 * a, 1))])
            wanted = [(t * unit, x * unit, carriers, loads) for t, x, carriers, loads in hands(small)]
            self.assertEqual(hands(large), wanted)
            self.assertEqual(len(wanted), 1 if length is None else 7)
            self.assertEqual(number(large.where("p")), unit * number(small.where("p")))

    def test_fine_fractions(self):
        a = Fraction(1, HUGE)
        track = Track()
        track.do([("come", "p", "a", (0, 1)), ("come", "q", "b", frac(a)), ("lead", "a", knots((1, 2 * a))),
                  ("to", (1, 1))])
        self.assertEqual(hands(track), [(Fraction(1, 2), a, "p q", "b a")])

    def test_twelve_carriers(self):
        for length in [None, 12]:
            track, slow = Track(length=length), SlowTrack(length)
            rows = [("come", name, name, (k, 1)) for k, name in enumerate(NAMES)]
            rows += [("lead", name, tuple(knots((3, 5 * k % 12), (5, 11 - k)))) for k, name in enumerate(NAMES)]
            rows += [("to", (2, 1)), ("to", (3, 1)), ("to", (9, 1))]
            for row in rows:
                perform(track, row)
                perform(slow, row)
            self.assertEqual(track.book(), slow.log)
            self.assertEqual(answers_of(track), slow.answers())
            self.assertGreater(len(hands(track)), 30)

    def test_hundreds_of_rows(self):
        for length in [None, 5]:
            track, slow = Track(length=length), SlowTrack(length)
            for _, other, _, dice in random_tracks(1, 116, steps=1):
                for _ in range(399):
                    operation = random_operation(dice, slow, most=4)
                    perform(track, operation)
                    perform(slow, operation)
            self.assertEqual(track.book(), slow.log)
            self.assertEqual(answers_of(track), slow.answers())
            self.assertIsNone(wrong_row(track.book(), length=length))


if __name__ == "__main__":
    unittest.main()
