"""Items 9 and 10 of paces, elsewhere, texts and console: the console."""

import inspect
import types
import unittest
from fractions import Fraction

from helper import frac
from slow_tracks import answers_of, operations_of, perform, random_error, random_operation, random_tracks
from test_texts import FRACTIONS, MOST, NO_FRACTIONS, NO_NAMES

from handedpast import console
from handedpast.console import Console
from handedpast.errors import TrackError
from handedpast.texts import book_text, read_book
from handedpast.tracks import Track

# Rows of none of the forms.
NO_ROWS = [
    "", " ", "lines", "Line", "LINE", "line ", " line", "line 1", "line\n", "ring", "ring ", "ring 10 ", "ring  10",
    "ring 10 10", "ring -1", "ring -0", "ring +1", "ring 00", "ring 01", "ring 1/2", "ring 2/1", "ring a", "ring None",
    "ring " + "9" * 61, "ring " + "9" * 5000, "ring " + "0" * 60, "ring \u0661", "ring 1_0", "come", "come p", "come p a",
    "come p a 0 0", "come 0 p a", "come 0 p a 0", "come p a  0", "come p  a 0", "come p,q a 0", "come P a 0",
    "come p abcdefghi 0", "come p a 0 ", "come p a 1:1", "lead", "lead a", "lead a ", "lead 1:1", "lead a 1", "lead a 1:",
    "lead a 1:1 ", "lead a  1:1", "lead a 1:1  2:2", "lead a b 1:1", "lead 0 a 1:1", "lead a 1:1,2:2", "leave",
    "leave ", "leave p q", "leave 0 p", "leave P", "to", "to ", "to a", "to 1 2", "to  1", "to 2/4", "to 01", "to -0",
    "to 1:1", "hand 1 2 p,q a,b", "has", "has p q", "has  p", "has 0", "where", "where 1", "where p q", "at", "at 1",
    "at a b", "carriers ", "carriers p", "Carriers", "book ", "book 1", "books", "rows", "answer", "now", "twin", "do",
    "attempt", "none", "ok", "no", "come\u00a0p\u00a0a\u00a00", "to\t1", "book\r", "\nbook", "carriers;book", ";",
]


def told(*rows):
    """A console that was told these rows on a line, each of which it took."""
    made = Console()
    for row in ("line", *rows):
        assert made.answer(row) == "ok", row
    return made


def row_of(operation):
    """The row of an operation, from the line that its row in a log has."""
    line = book_text([operation if operation[0] == "to" else (operation[0], (0, 1), *operation[1:])])[:-1]
    return line if operation[0] == "to" else " ".join(line.split(" ")[:1] + line.split(" ")[2:])


def tuple_of(value):
    return tuple(value) if isinstance(value, list) else value


def text_of(value):
    return book_text([("to", value)])[3:-1]


class AnswerTest(unittest.TestCase):
    """Item 9."""

    def check(self, made, *pairs):
        for row, answer in pairs:
            self.assertEqual(made.answer(row), answer, row)

    def test_example(self):
        self.check(Console(), ("to 1", "no track"), ("line", "ok"), ("come p a 0", "ok"), ("come q b 2", "ok"),
                   ("lead a 4:4", "ok"), ("to 4", "hand 2 2 p,q b,a"), ("has p", "b"))

    def test_interface(self):
        self.assertEqual(str(inspect.signature(Console)), "()")
        self.assertEqual(str(inspect.signature(Console.__dict__["answer"])), "(self, row)")
        self.assertEqual(str(inspect.signature(Console.__dict__["rows"])), "(self, text)")
        self.assertEqual(Console.__module__, console.__name__)
        self.assertEqual(Console().answer(row="line"), "ok")
        self.assertEqual(list(Console().rows(text="line")), ["ok"])

    def test_no_track(self):
        for row in ["come p a 0", "lead a 1:1", "leave p", "to 0", "has p", "where p", "at a", "carriers", "book",
                    *NO_ROWS]:
            self.check(Console(), (row, "no track"), (row, "no track"), ("book", "no track"))
        made = Console()
        # A track that cannot be is none.
        self.check(made, ("ring 0", "refused notrack"), ("book", "no track"), ("x", "no track"), ("ring 1", "ok"),
                   ("book", "0"), ("x", "no row"))

    def test_no_row(self):
        made = told("come p a 0", "come q b 2", "lead a 4:4")
        for row in NO_ROWS:
            self.check(made, (row, "no row"), ("book", "3"))
        self.check(made, ("to 4", "hand 2 2 p,q b,a"))

    def test_words_of_numbers_and_names(self):
        for word, value in FRACTIONS.items():
            made = told(f"come p a {word}")
            self.check(made, ("where p", word), ("at a", word))
            answer = "ok" if value[0] >= 0 else "refused notime"
            self.check(told(), (f"to {word}", answer))
            self.check(made, (f"lead a {MOST}:{word}", "ok"))
            self.check(told("come p a 0"), (f"lead a {word}:0", "ok" if value[0] > 0 else "refused notable"))
        made = told("come p a 0")
        for word in NO_FRACTIONS:
            for row in [f"to {word}", f"come q b {word}", f"lead a {word}:0", f"lead a 1:{word}", f"lead a 1:1 2:{word}"]:
                self.check(made, (row, "no row"))
        for word in NO_NAMES:
            for row in [f"come {word} b 1", f"come q {word} 1", f"lead {word} 1:1", f"leave {word}", f"has {word}",
                        f"where {word}", f"at {word}"]:
                self.check(made, (row, "no row"))
        self.check(made, ("book", "1"))

    def test_rings(self):
        for length in ["1", "9", "10", str(MOST)]:
            self.check(Console(), (f"ring {length}", "ok"), ("come p a 0", "ok"),
                       (f"come q b {length}", "refused nospot"), ("come q b 1/2", "ok"), ("carriers", "p q"))
        made = told("come p a 0")
        self.check(made, ("ring 0", "refused notrack"), ("carriers", "p"), ("book", "1"))

    def test_questions(self):
        made = told("come q b 2", "come p a -7/2", "lead a 4:4")
        self.check(made, ("has p", "a"), ("where p", "-7/2"), ("at b", "2"), ("carriers", "p q"), ("book", "3"),
                   ("to 1", "ok"), ("where p", "-13/8"), ("at a", "-13/8"), ("book", "4"))
        self.check(told(), ("carriers", "none"), ("book", "0"), ("to 5", "ok"), ("book", "1"))

    def test_several_handovers(self):
        made = told("come p a 0", "come q b 2", "come r c 10", "come s d 12", "lead a 4:4", "lead c 4:14")
        self.check(made, ("to 2", "ok"), ("to 2", "ok"), ("to 4", "hand 2 2 p,q b,a; hand 2 12 r,s d,c"),
                   ("to 4", "ok"), ("book", "12"))
        made = told("come p a 0", "come q b 1", "come r c 2", "lead a 2:2", "lead c 2:0")
        self.check(made, ("to 3/2", "hand 1 1 p,q,r c,b,a"))
        made = Console()
        self.check(made, ("ring 3", "ok"), ("come p a 0", "ok"), ("come q b 1", "ok"), ("lead a 3:6", "ok"),
                   ("to 9", "hand 1/2 1 p,q b,a; hand 2 1 q,p b,a"))

    def test_refused(self):
        made = told("come p a 0", "come q b 2", "lead a 4:4")
        pairs = [("come p c 5", "taken"), ("come r b 5", "taken"), ("come r c 2", "nospot"), ("come r c 0", "nospot"),
                 ("lead c 9:9", "noname"), ("lead p 9:9", "noname"), ("lead a 9:9", "norest"), ("lead b 0:1", "notable"),
                 ("lead b 2:2 1:1", "notable"), ("lead b -1:1", "notable"), ("leave x", "nocarrier"),
                 ("leave a", "nocarrier"), ("leave p", "norest"), ("to -1", "notime"), ("to -1/9", "notime"),
                 ("has a", "nocarrier"), ("where b", "nocarrier"), ("at p", "noname"), ("ring 0", "notrack"),
                 ("lead b " + " ".join(f"{k}:0" for k in range(1, 41)), "notable")]
        for row, name in pairs:
            self.check(made, (row, "refused " + name), ("book", "3"), ("carriers", "p q"), ("where p", "0"))
        self.check(made, ("lead b " + " ".join(f"{k}:2" for k in range(1, 40)), "ok"), ("to 1", "ok"),
                   ("to 1/2", "refused notime"), ("to 4", "hand 2 2 p,q b,a"))

    def test_anew(self):
        made = told("come p a 0", "to 5")
        self.check(made, ("line", "ok"), ("book", "0"), ("carriers", "none"), ("to 1", "ok"), ("come p a 0", "ok"))
        self.check(made, ("ring 5", "ok"), ("book", "0"), ("has p", "refused nocarrier"), ("come p a 7", "ok"),
                   ("where p", "7"), ("come q b 2", "refused nospot"))

    def test_names_that_are_words(self):
        words = ["come", "lead", "leave", "to", "has", "where", "at", "carriers", "book", "line", "ring", "none"]
        made = told(*[f"come {word} {other} {k}" for k, (word, other) in enumerate(zip(words, words[::-1]))])
        self.check(made, ("carriers", " ".join(words)), ("has come", "none"), ("has has", "carriers"),
                   ("at at", "5"), ("where where", "5"), ("lead lead 1:9", "ok"), ("leave leave", "ok"),
                   ("to 0", "ok"), ("book", "15"))
        self.check(told("come to to 0", "come hand hand 1", "lead to 2:2"), ("to 2", "hand 1 1 to,hand hand,to"))

    def test_random(self):
        hands = refused = 0
        for track, slow, length, dice in random_tracks(150, 191):
            made = Console()
            self.check(made, ("line" if length is None else f"ring {length}", "ok"))
            other = Track(length=length)
            for operation in operations_of(slow.log):
                many = len(other.book())
                other.do([operation])
                rows = [row for row in other.book()[many:] if row[0] == "hand"]
                answer = book_text(rows)[:-1].replace("\n", "; ") or "ok"
                self.check(made, (row_of(operation), answer))
                hands += len(rows)
            self.check_answers(made, track)
            operation, name, value = random_error(dice, slow)
            if self.has_row(operation):
                self.check(made, (row_of(operation), "refused " + name.lower()))
                self.check_answers(made, track)
                refused += 1
        self.assertGreater(hands, 150)
        self.assertGreater(refused, 30)

    def has_row(self, operation):
        """Whether all arguments are written as what they are."""
        row = operation if operation[0] == "to" else (operation[0], (0, 1), *operation[1:])
        try:
            return read_book(book_text([row])) == [tuple(map(tuple_of, row))]
        except (TypeError, ValueError, IndexError, AttributeError, KeyError):
            return False

    def check_answers(self, made, track):
        now, carriers, holds, places, loads = answers_of(track)
        self.check(made, ("carriers", " ".join(carriers) or "none"), ("book", str(len(track.book()))))
        for carrier in carriers:
            self.check(made, (f"has {carrier}", holds[carrier]), (f"where {carrier}", text_of(places[carrier])))
        for load, x in loads.items():
            self.check(made, (f"at {load}", text_of(x)))


class RowsTest(unittest.TestCase):
    """Item 10."""

    def test_lines(self):
        for text, wanted in [("", []), ("\n", ["no track"]), ("line", ["ok"]), ("line\n", ["ok"]),
                             ("line\n\n", ["ok", "no row"]), ("\nline\n", ["no track", "ok"]),
                             ("line\nbook", ["ok", "0"]), ("line\r\nline\n", ["no track", "ok"]),
                             (" \nline\n ", ["no track", "ok", "no row"]), ("\n\n\n", ["no track"] * 3),
                             ("line\n\nbook\n\n\n", ["ok", "no row", "0", "no row", "no row"]),
                             ("line\x0bbook\u2028book\x0c", ["no track"]), ("ring 0\nto 1", ["refused notrack", "no track"])]:
            self.assertEqual(list(Console().rows(text)), wanted, repr(text))

    def test_one_by_one(self):
        found = Console().rows("line\ncome p a 0\ncarriers")
        self.assertIsInstance(found, types.GeneratorType)
        self.assertEqual([next(found), next(found), next(found)], ["ok", "ok", "p"])
        with self.assertRaises(StopIteration):
            next(found)

    def test_consoles_know_nothing_of_each_other(self):
        made = told("come p a 0")
        self.assertEqual(list(made.rows("book\nring 5\ncome q b 1\ncarriers\nto 3\n")),
                         ["no track", "ok", "ok", "q", "ok"])
        self.assertEqual((made.answer("carriers"), made.answer("book")), ("p", "1"))
        # Also while they are read, and for one that was told nothing.
        found = made.rows("line\nto 1\nbook")
        self.assertEqual(next(found), "ok")
        self.assertEqual(made.answer("come q b 1"), "ok")
        self.assertEqual((next(found), next(found), made.answer("book")), ("ok", "1", "2"))
        fresh = Console()
        self.assertEqual(list(fresh.rows("line\nbook")), ["ok", "0"])
        self.assertEqual((fresh.answer("book"), Console().answer("book")), ("no track", "no track"))

    def test_random(self):
        for track, slow, length, dice in random_tracks(60, 192):
            operations = operations_of(slow.log)
            for _ in range(3):
                operations.append(random_operation(dice, slow))
                perform(slow, operations[-1])
            rows = ["to 1", "line" if length is None else f"ring {length}", *map(row_of, operations), "what", "book"]
            one = Console()
            wanted = [one.answer(row) for row in rows]
            self.assertEqual(wanted[-1], str(len(slow.log)))
            for text in ["\n".join(rows), "\n".join(rows) + "\n"]:
                self.assertEqual(list(Console().rows(text)), wanted)
                self.assertEqual(list(one.rows(text)), wanted)
            try:
                track.to(frac(Fraction(-1)))
            except TrackError:
                self.assertEqual(one.answer("to -1"), "refused notime")


if __name__ == "__main__":
    unittest.main()
