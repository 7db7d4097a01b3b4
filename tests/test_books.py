"""Items 11 to 13 of keeping, tracks, books and broad: logs, wrong rows, and tracks from logs."""

import inspect
import unittest
from fractions import Fraction

from helper import ODD_VALUES, frac, number
from slow_tracks import answers_of, operations_of, perform, random_error, random_operation, random_tracks
from slow_tracks import slow_wrong_row

from handedpast import books
from handedpast.books import again, wrong_row
from handedpast.errors import NoBook, NoTrack, TrackError
from handedpast.tracks import Track

HUGE = 10 ** 50


def knots(*pairs):
    return tuple((frac(t), frac(x)) for t, x in pairs)


# The log of a ring of length 10 on which a goes through b twice, and through c between.
RING_BOOK = [
    ("come", (0, 1), "p", "a", (0, 1)), ("come", (0, 1), "q", "b", (5, 1)), ("to", (1, 1)),
    ("come", (1, 1), "r", "c", (-2, 1)), ("lead", (1, 1), "a", knots((21, 20))),
    ("hand", (6, 1), (5, 1), ("p", "q"), ("b", "a")), ("hand", (9, 1), (8, 1), ("q", "r"), ("c", "a")),
    ("to", (11, 1)), ("hand", (16, 1), (5, 1), ("r", "p"), ("b", "a")), ("to", (17, 1)), ("leave", (17, 1), "q"),
    ("to", (30, 1)), ("leave", (30, 1), "p"), ("leave", (30, 1), "r"),
]
LINE_BOOK = [
    ("come", (0, 1), "p", "a", (0, 1)), ("come", (0, 1), "q", "b", (2, 1)), ("come", (0, 1), "r", "c", (6, 1)),
    ("lead", (0, 1), "a", knots((4, 4))), ("lead", (0, 1), "c", knots((2, 5), (4, 7))), ("to", (2, 1)),
    ("lead", (2, 1), "b", knots((4, 0))), ("hand", (2, 1), (2, 1), ("p", "q"), ("b", "a")), ("to", (4, 1)),
]


def mutated(dice, book):
    """A log with one row left out, twice, elsewhere, cut off or changed."""
    book = list(book)
    k = dice.randrange(len(book))
    row = book[k]
    step = dice.choice([-1, 1]) * Fraction(1, dice.choice([1, 2, 100, HUGE]))
    kind = dice.randrange(8)
    if kind == 0:
        del book[k]
    elif kind == 1:
        book.insert(dice.randrange(len(book) + 1), row)
    elif kind == 2:
        book.insert(dice.randrange(len(book)), book.pop(k))
    elif kind == 3:
        book = book[:k]
    elif kind == 4:
        book[k] = (row[0], frac(number(row[1]) + step), *row[2:])
    elif kind == 5:
        book.insert(k, ("to", row[1]))
    elif row[0] == "hand":
        lists = [list(row[3]), list(row[4])]
        dice.shuffle(lists[kind - 6])
        spot = frac(number(row[2]) + dice.choice([0, step, 1, 10]))
        book[k] = dice.choice([(*row[:3], *map(tuple, lists)), (*row[:2], spot, *row[3:])])
    elif row[0] == "come":
        book[k] = (*row[:4], frac(number(row[4]) + dice.choice([step, 10])))
    elif row[0] == "lead":
        made = list(row[3])
        at = dice.randrange(len(made))
        made[at] = (made[at][0], frac(number(made[at][1]) + dice.choice([step, 10])))
        book[k] = (*row[:3], tuple(made))
    return book


class BookTest(unittest.TestCase):
    """Item 11."""

    def test_rows(self):
        for book, length in [(RING_BOOK, 10), (LINE_BOOK, None)]:
            track = Track(length=length)
            track.do(operations_of(book))
            self.assertEqual(track.book(), book)

    def test_only_tuples(self):
        track = Track()
        track.do([("come", "p", "a", (0, 1)), ("come", "q", "b", (1, 1)), ("lead", "a", [((2, 1), (2, 1))]),
                  ("to", (2, 1))])

        def check(value):
            self.assertIsInstance(value, (tuple, str, int))
            self.assertNotIsInstance(value, bool)
            if isinstance(value, tuple):
                for part in value:
                    check(part)

        for row in track.book():
            check(row)
        self.assertEqual(len(track.book()), 5)

    def test_returned_list(self):
        track = Track()
        track.to((1, 1))
        self.assertIsInstance(track.book(), list)
        track.book().append("row")
        track.book().clear()
        self.assertEqual(track.book(), [("to", (1, 1))])

    def test_errors_have_no_row(self):
        for track, slow, _, dice in random_tracks(100, 131):
            operation, _, _ = random_error(dice, slow)
            with self.assertRaises(TrackError):
                perform(track, operation)
            self.assertEqual(track.book(), slow.log)

    def test_order_of_rows(self):
        for track, _, _, _ in random_tracks(150, 132):
            rows = track.book()
            for row, behind in zip(rows, rows[1:]):
                self.assertLessEqual(number(row[1]), number(behind[1]))
                if row[0] == "hand":
                    self.assertIn(behind[0], ("hand", "to"))
                    if behind[0] == "to":
                        self.assertLess(number(row[1]), number(behind[1]))
                    else:
                        self.assertLess((number(row[1]), number(row[2])), (number(behind[1]), number(behind[2])))


class WrongRowTest(unittest.TestCase):
    """Item 12."""

    def check_wrong(self, book, row, length=10):
        kept = list(book)
        self.assertEqual(wrong_row(book, length=length), row, book)
        self.assertEqual(wrong_row(tuple(book), length=length), row)
        with self.assertRaises(NoBook) as caught:
            again(book, length=length)
        self.assertEqual(caught.exception.row, row)
        self.assertEqual(list(book), kept)

    def test_examples(self):
        self.assertEqual(wrong_row([("come", (0, 1), "p", "a", (0, 1)), ("to", (1, 1)),
                                    ("come", (0, 1), "q", "b", (2, 1))]), 2)

    def test_interface(self):
        for made in (wrong_row, again):
            self.assertEqual(str(inspect.signature(made)), "(book, *, length=None)")
            self.assertEqual(made.__module__, books.__name__)
        self.assertIsNone(wrong_row(length=10, book=RING_BOOK))
        self.assertEqual(again(length=10, book=RING_BOOK).book(), RING_BOOK)

    def test_logs(self):
        for book, length in [(RING_BOOK, 10), (LINE_BOOK, None), ([], None), ([], 5), ([("to", (0, 1))] * 3, None)]:
            self.assertIsNone(wrong_row(book, length=length))
            self.assertIsNone(wrong_row(tuple(book), length=length))
        for track, _, length, _ in random_tracks(250, 133):
            self.assertIsNone(wrong_row(track.book(), length=length))

    def test_no_list(self):
        for value in ODD_VALUES + [None, "to 1", {0: ("to", (1, 1))}]:
            if isinstance(value, (list, tuple)) and len(value) == 0:
                self.assertIsNone(wrong_row(value))
            else:
                self.assertEqual(wrong_row(value), 0, value)
                with self.assertRaises(NoBook) as caught:
                    again(value)
                self.assertEqual(caught.exception.row, 0)

    def test_no_track(self):
        for length in [value for value in ODD_VALUES if value is not None]:
            for book in [RING_BOOK, None, [None], 7]:
                for made in (wrong_row, again):
                    with self.assertRaises(NoTrack):
                        made(book, length=length)

    def test_rows_left_out(self):
        wanted = {0: 3, 1: 4, 2: 2, 3: 5, 4: 4, 5: 5, 6: 6, 8: 8, 10: 10}
        for k, row in wanted.items():
            self.check_wrong(RING_BOOK[:k] + RING_BOOK[k + 1:], row)
        for k in [12, 13]:
            self.assertIsNone(wrong_row(RING_BOOK[:k] + RING_BOOK[k + 1:], length=10))
        # The "to" that performs handovers is missing: the first of them is no more than begun.
        self.check_wrong(RING_BOOK[:7], 5)
        self.check_wrong(RING_BOOK[:6], 5)
        self.check_wrong(RING_BOOK[:7] + RING_BOOK[8:9], 5)
        # An advance less: all handovers stand before the next one.
        self.assertIsNone(wrong_row(RING_BOOK[:7] + RING_BOOK[8:], length=10))
        for k in [9, 11]:
            self.check_wrong(RING_BOOK[:k] + RING_BOOK[k + 1:], k)

    def test_rows_more(self):
        for k, row in enumerate(RING_BOOK):
            book = RING_BOOK[:k] + [row] + RING_BOOK[k:]
            if row[0] == "to":
                self.assertIsNone(wrong_row(book, length=10))
            else:
                self.check_wrong(book, k + 1)
        for k in range(len(RING_BOOK) + 1):
            now = max([(0, 1)] + [row[1] for row in RING_BOOK[:k]], key=number)
            book = RING_BOOK[:k] + [("to", now)] + RING_BOOK[k:]
            if k in (6, 7, 9):
                # Right after a handover the time must grow.
                self.check_wrong(book, k)
            else:
                self.assertIsNone(wrong_row(book, length=10))
        for k in range(len(RING_BOOK)):
            # From the leading on, there are handovers before 40 until q leaves.
            self.check_wrong(RING_BOOK[:k] + [("to", (40, 1))] + RING_BOOK[k:], k if 5 <= k <= 10 else k + 1)

    def test_changed_items(self):
        changes = [
            (0, 1, (1, 1)), (0, 1, (-1, 1)), (1, 2, "p"), (1, 3, "a"), (1, 4, (10, 1)), (2, 1, (-1, 1)),
            (3, 1, (0, 1)), (3, 1, (2, 1)), (3, 4, (15, 1)), (3, 4, (0, 1)), (4, 1, (0, 1)), (4, 2, "p"),
            (4, 3, knots((1, 20))), (4, 3, knots((0, 0), (21, 20))), (4, 3, ()), (4, 3, list(knots((21, 20)))),
            (4, 3, knots((21, 20), (20, 20))), (4, 3, knots(*[(k, 0) for k in range(2, 42)])),
            (5, 1, (5, 1)), (5, 1, (61, 10)), (5, 2, (15, 1)), (5, 2, (-5, 1)), (5, 2, (4, 1)), (5, 3, ("q", "p")),
            (5, 3, ("p", "r")), (5, 3, ["p", "q"]), (5, 3, ("p",)), (5, 3, ("p", "q", "r")), (5, 4, ("a", "b")),
            (5, 4, ("b", "c")), (5, 4, ["b", "a"]), (5, 4, "ba"), (5, 4, ()), (6, 3, ("r", "q")), (7, 1, (9, 1)),
            (7, 1, (8, 1)), (7, 1, (17, 1)), (9, 1, (16, 1)), (10, 1, (16, 1)), (10, 2, "a"), (10, 2, "x"),
            (11, 1, (16, 1)), (12, 2, "q"),
        ]
        for k, at, item in changes:
            row = RING_BOOK[k]
            self.check_wrong(RING_BOOK[:k] + [(*row[:at], item, *row[at + 1:])] + RING_BOOK[k + 1:], k)
        self.check_wrong(RING_BOOK[:9] + [("to", (33, 2))] + RING_BOOK[10:], 10)

    def test_forms_at_any_depth(self):
        odd = ODD_VALUES + [None, "A", "abcdefghi", "\u00e4", (1, 1, 1), ((1, 1),)]
        for k, row in enumerate(RING_BOOK):
            for value in odd + [list(row), row[:-1], row + (1,), (row,), row[0], (row[0],), (row[0].upper(), *row[1:]),
                                ([row[0]], *row[1:]), (row[0] + " ", *row[1:]), ("has", *row[1:]), (None, *row[1:])]:
                self.check_wrong(RING_BOOK[:k] + [value] + RING_BOOK[k + 1:], k)
            for at in range(1, len(row)):
                for value in odd:
                    # Names of carriers and loads that are new may be any names.
                    if value != "a" or row[0] not in ("come", "lead"):
                        book = RING_BOOK[:k] + [(*row[:at], value, *row[at + 1:])] + RING_BOOK[k + 1:]
                        self.check_wrong(book, k)

    def test_booleans(self):
        book = [("come", (0, 1), "p", "a", (0, 1)), ("come", (0, 1), "q", "b", (1, 1)),
                ("lead", (0, 1), "a", (((1, 1), (1, 1)), ((2, 1), (2, 1)))),
                ("hand", (1, 1), (1, 1), ("p", "q"), ("b", "a")), ("to", (2, 1))]
        self.assertIsNone(wrong_row(book))
        yes, no = (True, 1), (False, 1)
        changes = [(0, (*book[0][:1], no, *book[0][2:])), (0, (*book[0][:4], no)), (0, (*book[0][:4], (0, True))),
                   (1, (*book[1][:4], yes)), (2, ("lead", (0, True), *book[2][2:])),
                   (2, (*book[2][:3], ((yes, (1, 1)), ((2, 1), (2, 1))))),
                   (2, (*book[2][:3], (((1, 1), (1, True)), ((2, 1), (2, 1))))),
                   (3, ("hand", yes, *book[3][2:])), (3, (*book[3][:2], yes, *book[3][3:])),
                   (3, (*book[3][:2], (1, True), *book[3][3:])), (4, ("to", (2, True)))]
        for k, row in changes:
            self.assertEqual(row, book[k])
            self.check_wrong(book[:k] + [row] + book[k + 1:], k, length=None)

    def test_not_in_lowest_terms(self):
        for k, at, item in [(0, 1, (0, 2)), (2, 1, (2, 2)), (3, 4, (-4, 2)), (5, 1, (12, 2)), (5, 2, (10, 2)),
                            (5, 2, (5, -1)), (9, 1, (-17, -1))]:
            row = RING_BOOK[k]
            self.check_wrong(RING_BOOK[:k] + [(*row[:at], item, *row[at + 1:])] + RING_BOOK[k + 1:], k)

    def test_missing_handovers(self):
        track = Track(length=10)
        track.do([("come", "p", "a", (0, 1)), ("come", "q", "b", (5, 1)), ("lead", "a", knots((40, 40), (80, 0))),
                  ("to", (100, 1))])
        book = track.book()
        self.assertEqual(sum(row[0] == "hand" for row in book), 8)
        for k, row in enumerate(book):
            if row[0] == "hand":
                # The next one stands in its place, or the "to".
                self.check_wrong(book[:k] + book[k + 1:], k)
                self.check_wrong(book[:k] + book[-1:], k)
        # A handover there and the one back do not make up for each other.
        self.check_wrong(book[:6] + book[8:], 6)
        self.check_wrong(book[:3] + book[-1:], 3)

    def test_others_at_one_time(self):
        track = Track()
        track.do([("come", name, name, (k, 1)) for k, name in enumerate("abcdef")])
        track.do([("lead", name, knots((2, k ^ 1))) for k, name in enumerate("abcdef")] + [("to", (2, 1))])
        book = track.book()
        self.assertEqual([row[2] for row in book[12:15]], [(1, 2), (5, 2), (9, 2)])
        for places in [(12, 14, 13), (13, 12, 14), (14, 13, 12), (13, 14), (12, 14), (14,), (12, 12, 13, 14)]:
            rows = [book[k] for k in places]
            first = next(k for k, row in enumerate(rows) if row != book[12 + k])
            self.check_wrong(book[:12] + rows + book[15:], 12 + first, length=None)
        # The last one at this time is missing.
        self.check_wrong(book[:14] + book[15:], 14, length=None)

    def test_handovers_at_now(self):
        book = LINE_BOOK
        self.assertIsNone(wrong_row(book))
        self.check_wrong(book[:7] + book[8:], 7, length=None)
        self.check_wrong(book[:8] + [("to", (2, 1))] + book[8:], 8, length=None)
        self.check_wrong(book[:8] + [("leave", (2, 1), "r")] + book[8:], 8, length=None)
        # Nothing is led after a handover, even at its time.
        self.check_wrong(book[:6] + [book[7], book[6], book[8]], 7, length=None)

    def test_random(self):
        wrong = 0
        for _, slow, length, dice in random_tracks(350, 134):
            for _ in range(4):
                book = mutated(dice, slow.log)
                wanted = slow_wrong_row(book, length)
                if wanted is None:
                    self.assertIsNone(wrong_row(book, length=length))
                else:
                    self.check_wrong(book, wanted, length)
                    wrong += 1
        self.assertGreater(wrong, 400)

    def test_begun(self):
        """Up to each row the log is the beginning of one."""
        for _, slow, length, _ in random_tracks(60, 135):
            for k in range(len(slow.log)):
                book = slow.log[:k]
                hands = [j for j in range(k) if all(row[0] == "hand" for row in book[j:])]
                self.assertEqual(wrong_row(book, length=length), hands[0] if hands else None)

    def test_does_not_simulate(self):
        """A row is wrong at once, however many handovers are missing before it."""
        book = [("come", (0, 1), "p", "a", (0, 1)), ("come", (0, 1), "q", "b", (5, 1)),
                ("lead", (0, 1), "a", knots((10, HUGE))), ("to", (10, 1))]
        self.assertEqual(wrong_row(book, length=10), 3)
        book[3:3] = [("hand", (1, 2 * HUGE // 100), (5, 1), ("p", "q"), ("b", "a"))]
        self.assertEqual(wrong_row(book, length=10), 4)


class AgainTest(unittest.TestCase):
    """Item 13."""

    def test_goes_on_as_it_did(self):
        for track, slow, length, dice in random_tracks(200, 136):
            book = track.book()
            made = again(book, length=length)
            self.assertIsInstance(made, Track)
            self.assertEqual(made, track)
            self.assertEqual((made.book(), answers_of(made)), (book, answers_of(track)))
            self.assertEqual(book, track.book())
            for _ in range(5):
                if dice.random() < 0.3:
                    operation, name, value = random_error(dice, slow)
                    for one in (made, track):
                        with self.assertRaises(TrackError) as caught:
                            perform(one, operation)
                        self.assertEqual(type(caught.exception).__name__, name)
                operation = random_operation(dice, slow)
                for one in (made, track, slow):
                    perform(one, operation)
                self.assertEqual(made, track)
            self.assertEqual(made.book(), slow.log)

    def test_together_at_the_end(self):
        book = [("come", (0, 1), "p", "a", (0, 1)), ("come", (0, 1), "q", "b", (2, 1)),
                ("lead", (0, 1), "a", knots((2, 2))), ("to", (2, 1))]
        for x, wanted in [(3, "b"), (1, "a"), (2, "a")]:
            track = again(book)
            self.assertEqual((track.has("p"), track.where("p"), track.where("q")), ("a", (2, 1), (2, 1)))
            track.do([("lead", "a", knots((3, x))), ("to", (3, 1))])
            self.assertEqual(track.has("p"), wanted)
            self.assertEqual(again(track.book()), track)
            # Still together, they keep the order that they had before.
            track.do([("lead", "a", knots((4, 5))), ("to", (4, 1))])
            self.assertEqual(track.has("p"), "b")

    def test_books_belong_to_the_caller(self):
        book = list(RING_BOOK)
        track = again(book, length=10)
        book.clear()
        self.assertEqual(track.book(), RING_BOOK)
        track.to((99, 1))
        self.assertEqual(len(RING_BOOK), 14)


if __name__ == "__main__":
    unittest.main()
