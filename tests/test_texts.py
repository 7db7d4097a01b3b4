"""Items 7 and 8 of paces, elsewhere, texts and console: texts of timetables and logs."""

import inspect
import unittest
from fractions import Fraction
from random import Random

from helper import A, ODD_VALUES, frac, random_plays, random_table, table
from slow_tracks import random_tracks

from handedpast import texts
from handedpast.books import again, wrong_row
from handedpast.errors import NoTable, NoText
from handedpast.tables import Timetable
from handedpast.texts import book_text, read_book, read_table, table_text

MOST = 10 ** 60 - 1
# Words that are not those of fractions.
NO_FRACTIONS = [
    "", "-", "+1", "-0", "00", "01", "-01", "007", "0/1", "1/1", "2/1", "-3/1", "1/0", "0/0", "0/2", "2/4", "-2/4",
    "6/3", "1/-2", "-1/-2", "1/+2", "1/02", "01/2", "1/", "/2", "/", "1//2", "1/2/3", "--1", "1-", "1.0", "1e3", "0x1",
    "1_000", "a", "A", "None", "True", "(1, 2)", "1,2", " 1", "1 ", "1\t", "\t1", "1\n", "\n1", "1\r", "\u0661", "\u00b2",
    "\uff11", "1\u00a0", "\u2212" + "1", "-/2", "1/-", str(10 ** 60), "-" + str(10 ** 60), "1/" + str(10 ** 60),
    "9" * 5000, "-" + "9" * 5000, "1/" + "7" * 5000, "0" * 5000, "9" * 5000 + "/2",
]
FRACTIONS = {
    "0": (0, 1), "1": (1, 1), "-1": (-1, 1), "10": (10, 1), "1/2": (1, 2), "-1/2": (-1, 2), "22/7": (22, 7),
    "100/3": (100, 3), "-100/3": (-100, 3), str(MOST): (MOST, 1), "-" + str(MOST): (-MOST, 1),
    f"1/{MOST}": (1, MOST), f"-1/{MOST}": (-1, MOST), f"{MOST - 1}/{MOST}": (MOST - 1, MOST),
}
NO_NAMES = ["", "A", "aB", "abcdefghi", "a1", "a_", "\u00e4", "a\n", "\ta", "1", "a:b", "a/b", "a,"]


class TableTextTest(unittest.TestCase):
    """Item 7."""

    def check_no_text(self, value, error=NoText):
        with self.assertRaises(error, msg=repr(value)[:99]) as caught:
            read_table(value)
        if error is NoText:
            self.assertEqual(caught.exception.row, 0)

    def test_examples(self):
        self.assertEqual(table_text(A), "0:0 4:4")
        self.assertEqual(read_table("0:0 4:4"), A)

    def test_interface(self):
        wanted = {table_text: "(table)", read_table: "(text)", book_text: "(book)", read_book: "(text)"}
        for made, signature in wanted.items():
            self.assertEqual(str(inspect.signature(made)), signature)
            self.assertEqual(made.__module__, texts.__name__)
        self.assertEqual(read_table(text=table_text(table=A)), A)
        self.assertEqual(read_book(text=book_text(book=[("to", (1, 1))])), [("to", (1, 1))])

    def test_fractions(self):
        for word, value in FRACTIONS.items():
            for knot, text in [((value, (7, 3)), f"{word}:7/3"), (((-7, 3), value), f"-7/3:{word}")]:
                self.assertEqual(table_text(Timetable([knot])), text)
                self.assertEqual(read_table(text).knots(), [knot])
        for word in NO_FRACTIONS:
            for text in [f"{word}:0", f"0:{word}", f"0:0 {word}:1", f"{word}:0 5:5", f"0:{word} 1:1"]:
                self.check_no_text(text)

    def test_forms(self):
        for text in ["", " ", "0", "0:", ":0", ":", "0:0:0", "0:0 ", " 0:0", "0:0  1:1", "0:0\n", "\n0:0", "0:0\n1:1",
                     "0:0\t1:1", "0: 0", "0 :0", "0:0,1:1", "0:0;1:1", "0;0", "0:0 1", "0:0\r\n", "0:0\x00", "0/0",
                     "[0:0]", "0:0 None", "-:0", "0:0\u20281:1", "0:0\x0b1:1", "0:0\u00a01:1"]:
            self.check_no_text(text)

    def test_any_value(self):
        for value in ODD_VALUES + [None, 1, ["0:0"], ("0:0",), {"0:0": 1}, [["0", "0"]], A.knots()]:
            self.check_no_text(value)

    def test_no_table(self):
        for text in ["0:0 0:0", "1:0 0:0", "0:0 2:1 1:5", "0:0 1/2:1 1/3:1", "-1:0 -2:0", "0:1 1:1 1:1",
                     " ".join(f"{k}:0" for k in range(41)), " ".join(f"{k}:0" for k in range(500))]:
            self.check_no_text(text, NoTable)
        # The form comes first.
        for text in ["1:0 0:0 x", "0:0 0:0 ", "0:0 0:00", " ".join(f"{k}:0" for k in range(41)) + "\n"]:
            self.check_no_text(text)
        self.assertEqual(len(read_table(" ".join(f"{k}:0" for k in range(40))).knots()), 40)

    def test_read_as_written(self):
        dice = Random(181)
        for _ in range(300):
            made = random_table(dice)
            text = table_text(made)
            self.assertEqual(read_table(text).knots(), made.knots())
            self.assertEqual(table_text(read_table(text)), text)
        for _ in range(200):
            times = sorted({Fraction(dice.randint(-MOST, MOST), dice.randint(1, MOST)) for _ in range(40)})
            made = Timetable([(frac(t), frac(Fraction(dice.randint(-MOST, MOST), dice.randint(1, MOST))))
                              for t in times])
            self.assertEqual(read_table(table_text(made)).knots(), made.knots())

    def test_further_knots_are_written(self):
        self.assertEqual(table_text(table((0, 0), (1, 1), (2, 2), (3, 2))), "0:0 1:1 2:2 3:2")


def random_row(dice):
    """A row of the form of one, seldom one of a track."""
    def value():
        return frac(Fraction(dice.choice([-1, 1]) * dice.randint(0, dice.choice([3, MOST])),
                             dice.choice([1, 2, dice.randint(1, MOST)])))

    def names(many):
        found = dice.sample(["come", "lead", "leave", "hand", "to", "a", "zzzzzzzz", "x", "yy", "line", "ring", "book"],
                            many)
        return tuple(found)

    many = dice.choice([2, 3, 12])
    return dice.choice([
        ("come", value(), *names(1), *names(1), value()),
        ("lead", value(), *names(1), tuple((value(), value()) for _ in range(dice.choice([1, 2, 3, 50])))),
        ("leave", value(), *names(1)), ("hand", value(), value(), names(many), names(many)), ("to", value()),
    ])


LINES = {
    "come 0 p a 0": ("come", (0, 1), "p", "a", (0, 1)),
    "come -1/2 come come 7/3": ("come", (-1, 2), "come", "come", (7, 3)),
    "lead 0 a 1:1": ("lead", (0, 1), "a", (((1, 1), (1, 1)),)),
    "lead 3 lead 2:1 1/2:-1 1/2:-1": ("lead", (3, 1), "lead", (((2, 1), (1, 1)), ((1, 2), (-1, 1)), ((1, 2), (-1, 1)))),
    "leave 5 to": ("leave", (5, 1), "to"),
    "hand 1 -2 p,q b,a": ("hand", (1, 1), (-2, 1), ("p", "q"), ("b", "a")),
    "hand 1/2 2/3 a,b,c a,b,c": ("hand", (1, 2), (2, 3), ("a", "b", "c"), ("a", "b", "c")),
    "to 0": ("to", (0, 1)),
    f"to {MOST}": ("to", (MOST, 1)),
}


class BookTextTest(unittest.TestCase):
    """Item 8."""

    def check_no_text(self, text, row):
        with self.assertRaises(NoText, msg=repr(text)[:99]) as caught:
            read_book(text)
        self.assertEqual(caught.exception.row, row, repr(text)[:99])

    def test_examples(self):
        self.assertEqual(read_book("come 0 p a 0\nto 1/2\n"), [("come", (0, 1), "p", "a", (0, 1)), ("to", (1, 2))])
        self.check_no_text("to 2/4\n", 0)

    def test_lines(self):
        for line, row in LINES.items():
            self.assertEqual(book_text([row]), line + "\n")
            self.assertEqual(read_book(line + "\n"), [row])
        text = "".join(line + "\n" for line in LINES)
        self.assertEqual(book_text(list(LINES.values())), text)
        self.assertEqual(book_text(tuple(LINES.values())), text)
        self.assertEqual(read_book(text), list(LINES.values()))
        self.assertEqual((book_text([]), book_text(()), read_book("")), ("", "", []))

    def test_kinds_of_values(self):
        for row in read_book("".join(line + "\n" for line in LINES)):
            self.assertIsInstance(row, tuple)
            self.assertTrue(all(isinstance(item, (tuple, str)) for item in row))
        found = read_book("to 1\n")
        found.clear()
        self.assertEqual(read_book("to 1\n"), [("to", (1, 1))])

    def test_wrong_lines(self):
        wrong = [
            "", " ", "to", "to ", " to 1", "to 1 ", "to  1", "to 1 2", "TO 1", "to1", "to\t1", "too 1", "to 1\r", "at a",
            "come", "come 0 p a", "come 0 p a 0 0", "come 0 p 0 a", "come p a 0", "come 0  p a 0", "come 0 p,q a 0",
            "come 0 P a 0", "come 0 p abcdefghi 0", "lead", "lead 0", "lead 0 a", "lead 0 a ", "lead 0 a 1", "lead a 1:1",
            "lead 0 a 1:1 ", "lead 0 a  1:1", "lead 0 a 1:1  2:2", "lead 0 a 1:1,2:2", "lead 0 a 1:1 b",
            "lead 0 a b 1:1", "leave", "leave 0", "leave 0 p q", "leave p 0", "leave 0 p,q", "leave 0 ",
            "hand 1 2 p q", "hand 1 2 p,q a", "hand 1 2 p a,b", "hand 1 2 p,q a,b,c", "hand 1 2 p,p a,b",
            "hand 1 2 p,q a,a", "hand 1 2 p,q,p a,b,c", "hand 1 2 p, a,b", "hand 1 2 ,p a,b", "hand 1 2 p,q a,",
            "hand 1 2 p,,q a,b,c", "hand 1 2 p,Q a,b", "hand 1 2 p;q a;b", "hand 1 p,q a,b", "hand 1 2 3 p,q a,b",
            "hand 1 2 p,q", "hand 1 2 p,q a,b c", "hand 1 2 p, q a,b", "hand 1 2 , ,", "hand p,q a,b 1 2",
            "line", "ring 10", "has p", "row", "0", "None", "come\u00a00 p a 0", "to 1\x0b", "to 1\u2028",
        ]
        for line in wrong:
            self.check_no_text(line + "\n", 0)
            self.check_no_text("to 1\n" + line + "\n", 1)
            self.check_no_text("to 1\n\n" + line + "\n", 1)
            self.check_no_text("to 1\nleave 1 p\n" + line + "\nto 1\nx\n", 2)

    def test_words(self):
        for word in [word for word in NO_FRACTIONS if "\n" not in word]:
            for line in [f"to {word}", f"come {word} p a 0", f"come 0 p a {word}", f"lead {word} a 1:1",
                         f"lead 0 a {word}:1", f"lead 0 a 0:0 1:{word}", f"leave {word} p", f"hand {word} 0 p,q a,b",
                         f"hand 0 {word} p,q a,b"]:
                self.check_no_text("to 0\n" + line + "\n", 1)
        for word, value in FRACTIONS.items():
            self.assertEqual(read_book(f"hand {word} {word} p,q a,b\n"), [("hand", value, value, ("p", "q"), ("a", "b"))])
        for word in [word for word in NO_NAMES if "\n" not in word]:
            for line in [f"come 0 {word} a 0", f"come 0 p {word} 0", f"lead 0 {word} 1:1", f"leave 0 {word}",
                         f"hand 0 0 p,{word} a,b", f"hand 0 0 p,q {word},b"]:
                self.check_no_text(line + "\n", 0)

    def test_newlines(self):
        self.check_no_text("to 1", 0)
        self.check_no_text("to 1\nto 2", 1)
        self.check_no_text("to 1\nto 2\n ", 2)
        self.check_no_text("x\nto 2", 0)
        self.check_no_text("\n", 0)
        self.check_no_text("to 1\n\n", 1)
        self.check_no_text("to 1\r\nto 2\r\n", 0)
        self.check_no_text("to 1\rto 2\n", 0)

    def test_any_value(self):
        for value in ODD_VALUES + [None, 7, ["to 1\n"], ("to 1\n",), {"to 1\n": 1}, [("to", (1, 1))]]:
            if value != "":
                self.check_no_text(value, 0)

    def test_read_as_written(self):
        dice = Random(182)
        for _ in range(300):
            book = [random_row(dice) for _ in range(dice.randint(0, 9))]
            kept = list(book)
            text = book_text(book)
            self.assertEqual(book, kept)
            self.assertEqual(text.count("\n"), len(book))
            self.assertEqual(read_book(text), book)
            self.assertEqual(book_text(tuple(book)), text)
            self.assertEqual(book_text(read_book(text)), text)

    def test_logs_of_tracks(self):
        for track, slow, length, _ in random_tracks(120, 183):
            text = book_text(track.book())
            self.assertEqual(read_book(text), slow.log)
            self.assertIsNone(wrong_row(read_book(text), length=length))
            self.assertEqual(again(read_book(text), length=length), track)
        # Only the form is checked.
        self.assertEqual(read_book("to 5\nto 1\n"), [("to", (5, 1)), ("to", (1, 1))])

    def test_tables_of_plays(self):
        for tables, _, _ in random_plays(30, 184):
            for made in tables.values():
                self.assertEqual(read_table(table_text(made)).knots(), made.knots())


if __name__ == "__main__":
    unittest.main()
