"""Item 11 of paces, elsewhere, texts and console: what holds over the whole program."""

import inspect
import unittest
from fractions import Fraction
from itertools import permutations

from helper import A, LINE, NAMES, RING, frac, number, random_plays, table, times_of
from slow_tracks import SlowTrack, answers_of, operations_of, perform, random_operation, random_tracks
from test_console import row_of, text_of

from handedpast import books, broad, console, counting, elsewhere, errors, fractions, keeping, orders, paces, pairs
from handedpast import play, shares, tables, texts, tracks
from handedpast.books import again, wrong_row
from handedpast.broad import body_at, load_at, rank_growth
from handedpast.console import Console
from handedpast.counting import held_at, holder_at, place_at, rank_of
from handedpast.elsewhere import holder_if, windows
from handedpast.keeping import keeps, paths_of
from handedpast.paces import first_fail, paces_for
from handedpast.play import Play
from handedpast.tables import Timetable
from handedpast.texts import book_text, read_book, read_table, table_text
from handedpast.tracks import Track

WORDS = ["come", "lead", "leave", "hand", "to", "has", "where", "at", "carriers", "book", "line", "ring"]

# Each function with the arguments of a call, by the names and in the order of the document.
CALLS = {
    fractions: {
        "is_fraction": {"value": (1, 2)}, "new_fraction": {"n": 4, "d": -6}, "sum_of": {"a": (1, 2), "b": (1, 3)},
        "rest_of": {"a": (1, 2), "b": (1, 3)}, "product_of": {"a": (1, 2), "b": (1, 3)},
        "share_of": {"a": (1, 2), "b": (1, 3)}, "order_of": {"a": (1, 2), "b": (1, 3)}, "floor_of": {"a": (-7, 2)},
    },
    pairs: {
        "contacts": {"one": A, "other": LINE["b"], "length": 3, "since": (0, 1), "until": (4, 1)},
        "laps": {"one": A, "other": LINE["b"], "t": (1, 1), "length": 3},
        "crossing_counts": {"one": A, "other": LINE["b"], "length": 3, "since": (0, 1), "until": (4, 1)},
        "crossings": {"one": A, "other": LINE["b"], "length": 3, "since": (0, 1)},
    },
    orders: {"order_at": {"tables": RING, "t": (12, 1), "length": 10}},
    counting: {
        "rank_of": {"tables": RING, "name": "c", "t": (20, 1), "length": 10},
        "holder_at": {"tables": RING, "name": "c", "t": (20, 1), "length": 10},
        "held_at": {"tables": RING, "carrier": 1, "t": (20, 1), "length": 10},
        "place_at": {"tables": RING, "carrier": 1, "t": (20, 1), "length": 10},
    },
    shares: {
        "displaced": {"tables": RING, "carrier": 1, "t": (20, 1), "length": 10},
        "walked_by": {"tables": RING, "carrier": 1, "t": (20, 1), "length": 10},
        "spread": {"tables": RING, "t": (5, 1), "length": 10}, "shared": {"tables": RING, "t": (20, 1), "length": 10},
    },
    keeping: {
        "keeps": {"tables": RING, "paths": [[((0, 1), (0, 1))], [((0, 1), (5, 1))]], "length": 10},
        "paths_of": {"tables": RING, "length": 10},
    },
    books: {"wrong_row": {"book": [("to", (2, 1)), ("to", (1, 1))], "length": 10},
            "again": {"book": [("to", (2, 1))], "length": 10}},
    broad: {
        "body_at": {"tables": RING, "carrier": 1, "t": (20, 1), "width": (1, 2), "length": 10},
        "load_at": {"tables": RING, "name": "c", "t": (20, 1), "width": (1, 2), "length": 10},
        "rank_growth": {"tables": RING, "name": "c", "t": (20, 1), "length": 10},
    },
    paces: {"first_fail": {"tables": RING, "paces": [(1, 1), (1, 2)], "length": 10},
            "paces_for": {"tables": RING, "length": 10}},
    elsewhere: {"holder_if": {"tables": RING, "name": "c", "t": (12, 1), "x": (3, 1), "length": 10},
                "windows": {"tables": RING, "name": "c", "t": (12, 1), "length": 10}},
    texts: {"table_text": {"table": A}, "read_table": {"text": "0:0 1:1"}, "book_text": {"book": [("to", (1, 2))]},
            "read_book": {"text": "to 1/2\n"}},
}
METHODS = {
    tables.Timetable: {
        "knots": {}, "begin": {}, "at": {"t": (1, 1)}, "pace": {"t": (1, 1)}, "walked": {"t": (1, 1), "u": (3, 1)},
        "rests_at": {"t": (4, 1)}, "led_on": {"t": (4, 1), "more": [((5, 1), (0, 1))]}, "moved": {"x": (1, 1)},
        "later": {"t": (1, 1)}, "scaled": {"a": (2, 1)}, "resting": {"t": (1, 1), "x": (2, 1)},
    },
    play.Play: {
        "holder": {"name": "c", "t": (6, 1)}, "held": {"carrier": 0, "t": (6, 1)}, "place": {"carrier": 0, "t": (6, 1)},
        "handovers": {"since": (6, 1)}, "spells": {"carrier": 0, "until": (9, 1)},
    },
    tracks.Track: {
        "come": {"carrier": "q", "load": "b", "place": (4, 1)}, "lead": {"load": "a", "knots": [((1, 1), (5, 1))]},
        "leave": {"carrier": "p"}, "to": {"t": (3, 1)}, "carriers": {}, "has": {"carrier": "p"},
        "where": {"carrier": "p"}, "at": {"load": "a"}, "attempt": {"work": lambda track: track.to((1, 1))},
        "do": {"operations": [("to", (2, 1))]}, "book": {}, "twin": {},
    },
    console.Console: {"answer": {"row": "line"}, "rows": {"text": "line\nbook"}},
}


def plain(value):
    """The value, or the list of what it yields."""
    return list(value) if inspect.isgenerator(value) else value


def orders_of(arguments):
    """The arguments in some orders, as dicts."""
    return [dict(items) for items in list(permutations(arguments.items()))[::5]] + [dict(reversed(arguments.items()))]


def an_object(kind):
    """An object of a class for the calls of METHODS, a new one each time."""
    if kind is tables.Timetable:
        return Timetable(A.knots())
    if kind is play.Play:
        return Play(RING, length=10)
    made = kind()
    if kind is tracks.Track:
        made.come("p", "a", (0, 1))
    return made


class ParametersTest(unittest.TestCase):
    def test_functions(self):
        for module, calls in CALLS.items():
            for name, arguments in calls.items():
                made = getattr(module, name)
                self.assertEqual(made.__module__, module.__name__)
                keyword = [parameter.name for parameter in inspect.signature(made).parameters.values()
                           if parameter.kind is parameter.KEYWORD_ONLY]
                # What stands before the keyword-only ones may be passed by position.
                first = [value for key, value in arguments.items() if key not in keyword]
                wanted = plain(made(*first, **{key: arguments[key] for key in keyword}))
                for some in orders_of(arguments):
                    self.assertEqual(plain(made(**some)), wanted, name)
                for key in keyword:
                    with self.assertRaises(TypeError, msg=name):
                        plain(made(*arguments.values()))

    def test_methods(self):
        for kind, calls in METHODS.items():
            for name, arguments in calls.items():
                self.assertIn(name, vars(kind))
                one = an_object(kind)
                wanted = plain(getattr(one, name)(*arguments.values()))
                for some in orders_of(arguments):
                    other = an_object(kind)
                    found = plain(getattr(other, name)(**some))
                    self.assertEqual(found, wanted, name)
                    if kind is tracks.Track:
                        self.assertEqual((one, one.book()), (other, other.book()))

    def test_classes(self):
        self.assertEqual(Timetable(knots=A.knots()), A)
        self.assertEqual(Play(length=10, tables=RING).held(1, (6, 1)), "c")
        self.assertEqual(Track(length=10), Track(length=10))
        for name in ["NoName", "Taken"]:
            self.assertEqual(getattr(errors, name)(name="x").name, "x")
        for name in ["NoBook", "NoText"]:
            self.assertEqual(getattr(errors, name)(row=3).row, 3)

    def test_length_left_out(self):
        """On a line the length may be left out, or be None."""
        for module, calls in CALLS.items():
            for name, arguments in calls.items():
                if "length" in arguments and module is not shares:
                    line = {key: LINE if value is RING else value for key, value in arguments.items() if key != "length"}
                    line = {key: "a" if key == "name" else value for key, value in line.items()}
                    made = getattr(module, name)
                    self.assertEqual(plain(made(**line)), plain(made(**line, length=None)), name)
        self.assertEqual(Track(), Track(length=None))
        self.assertEqual(Play(LINE).spells(0, (4, 1)), Play(LINE, length=None).spells(0, (4, 1)))


def loads_on(wanted, length, dice=None):
    """A track on which these loads, that begin at 0, come and are led; the carriers have the loads' names."""
    track = Track(length=length)
    names = list(wanted)
    if dice:
        dice.shuffle(names)
    for name in names:
        track.come(name, name, wanted[name].at((0, 1)))
        if len(wanted[name].knots()) > 1:
            track.lead(name, wanted[name].knots()[1:])
    return track


class WholeTest(unittest.TestCase):
    def check(self, loads, length, dice, times):
        """Compares all parts of the program for loads that begin at 0; times are ascending."""
        simulation = Play(loads, length=length)
        names = [simulation.held(k, (0, 1)) for k in range(len(loads))]
        track = loads_on(loads, length, dice)
        shift = {name: number(track.where(name)) - number(simulation.place(k, (0, 1))) for k, name in enumerate(names)}
        made = Console()
        made.answer("line" if length is None else f"ring {length}")
        for operation in operations_of(track.book()):
            self.assertEqual(made.answer(row_of(operation)), "ok")
        for t in times:
            u = frac(t)
            track.to(u)
            made.answer(f"to {text_of(u)}")
            for k, carrier in enumerate(names):
                held = track.has(carrier)
                self.assertEqual(held, held_at(loads, k, u, length=length))
                self.assertEqual(held, simulation.held(k, u))
                self.assertEqual(holder_at(loads, held, u, length=length), k)
                self.assertEqual(number(track.where(carrier)),
                                 number(place_at(loads, k, u, length=length)) + shift[carrier])
                self.assertEqual(track.at(held), loads[held].at(u))
                self.assertEqual([made.answer(f"{word} {carrier}") for word in ("has", "where")],
                                 [held, text_of(track.where(carrier))])
        self.check_log(loads, length, dice, track, names)
        self.assertEqual(made.answer("book"), str(len(track.book())))
        self.check_paths(loads, length, simulation, times)
        return track

    def check_log(self, loads, length, dice, track, names):
        book = track.book()
        hands = [row for row in book if row[0] == "hand"]
        self.assertEqual([(t, x, tuple(map(names.index, carriers)), held) for _, t, x, carriers, held in hands],
                         list(Play(loads, length=length).handovers()))
        self.assertIsNone(wrong_row(book, length=length))
        self.assertEqual(again(book, length=length), track)
        self.assertEqual(read_book(book_text(book)), book)
        if hands:
            k = book.index(dice.choice(hands))
            self.assertEqual(wrong_row(book[:k] + book[k + 1:], length=length), k)
        for made in loads.values():
            self.assertEqual(read_table(table_text(made)).knots(), made.knots())

    def check_paths(self, loads, length, simulation, times):
        paths = paths_of(loads, length=length)
        self.assertIsNone(keeps(loads, paths, length=length))
        for k, path in enumerate(paths):
            for t, x in path:
                self.assertEqual(simulation.place(k, t), x)
        self.assertIsNone(first_fail(loads, paces_for(loads, length=length), length=length))
        for t in times[-2:]:
            for name in loads:
                rank = rank_of(loads, name, frac(t), length=length)
                self.assertEqual(rank - rank_of(loads, name, (0, 1), length=length),
                                 rank_growth(loads, name, frac(t), length=length))
                self.assertEqual(load_at(loads, name, frac(t), (0, 1), length=length), loads[name].at(frac(t)))
                for low, high, carrier in windows(loads, name, frac(t), length=length):
                    if low is not None and high is not None:
                        x = frac((number(low) + number(high)) / 2)
                        self.assertEqual(holder_if(loads, name, frac(t), x, length=length), carrier)
            for k in range(len(loads)):
                self.assertEqual(body_at(loads, k, frac(t), (0, 1), length=length), simulation.place(k, frac(t)))

    def test_random(self):
        many = 0
        for loads, length, dice in random_plays(100, 201):
            begin = next(iter(loads.values())).begin()
            loads = {name: made.later((-begin[0], begin[1])) for name, made in loads.items()}
            times = times_of(loads, length)
            times = sorted(dice.sample(times, min(4, len(times)))) + [times[-1] + 1]
            track = self.check(loads, length, dice, times)
            many += sum(row[0] == "hand" for row in track.book())
        self.assertGreater(many, 250)

    def test_twelve_loads_with_words_as_names(self):
        for _, _, length, dice in random_tracks(4, 202, steps=1, lengths=(None, 12, 31)):
            loads = {name: table((0, k), *[(t, dice.randint(-9, 40)) for t in range(1, dice.randint(2, 5))])
                     for k, name in enumerate(WORDS)}
            track = self.check(loads, length, dice, [Fraction(1, 2), 1, 2, Fraction(7, 2), 9])
            self.assertEqual(sorted(track.carriers()), sorted(WORDS))
            self.assertGreater(len(track.book()), 60)

    def test_400_operations(self):
        for length in [None, 7]:
            for _, _, _, dice in random_tracks(1, 203, steps=1):
                track, slow, made = Track(length=length), SlowTrack(length), Console()
                made.answer("line" if length is None else f"ring {length}")
                for _ in range(400):
                    operation = random_operation(dice, slow, most=3)
                    perform(track, operation)
                    perform(slow, operation)
                    self.assertNotIn(made.answer(row_of(operation))[:2], ("no", "re"))
                self.assertEqual(track.book(), slow.log)
                self.assertEqual(answers_of(track), slow.answers())
                self.assertIsNone(wrong_row(track.book(), length=length))
                self.assertEqual(again(track.book(), length=length), track)
                self.assertEqual(read_book(book_text(track.book())), slow.log)
                self.assertEqual(made.answer("book"), str(len(slow.log)))

    def test_errors_are_direct_subclasses(self):
        found = [value for value in vars(errors).values() if isinstance(value, type)]
        self.assertEqual({value.__name__ for value in found if value.__bases__ == (errors.TrackError,)}, {
            "NoTable", "NoTime", "NoTrack", "NoName", "Taken", "NoCarrier", "NoRest", "NoSpot", "NoBook", "NoText"})
        self.assertEqual(errors.TrackError.__bases__, (ValueError,))
        self.assertEqual(len(NAMES), 12)


if __name__ == "__main__":
    unittest.main()
