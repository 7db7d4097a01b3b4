"""Texts: how timetables and logs are written, and what is read from them."""

from handedpast.errors import NoText
from handedpast.fractions import is_fraction
from handedpast.play import is_name
from handedpast.tables import Timetable, is_knot

MOST_DIGITS = 60
DIGITS = "0123456789"

# What follows the word of each row of a log; knots are one word or more.
FORMS = {
    "come": ("fraction", "name", "name", "fraction"),
    "lead": ("fraction", "name", "knots"),
    "leave": ("fraction", "name"),
    "hand": ("fraction", "fraction", "names", "names"),
    "to": ("fraction",),
}


def fraction_text(a):
    """The text of a fraction."""
    n, d = a
    return f"{n}" if d == 1 else f"{n}/{d}"


def knots_text(knots):
    """The text of some knots."""
    return " ".join([f"{fraction_text(t)}:{fraction_text(x)}" for t, x in knots])


def item_text(item):
    """The text of an item of a row."""
    if isinstance(item, str):
        return item
    if is_fraction(item):
        return fraction_text(item)
    return ",".join(list(item)) if is_name(item[0]) else knots_text(item)


def row_text(row):
    """The text of a row, without a newline."""
    return " ".join([item_text(item) for item in row])


def is_natural(word):
    """Whether the word is that of an integer from 0 on, without leading zeros."""
    if not 1 <= len(word) <= MOST_DIGITS or not all([digit in DIGITS for digit in word]):
        return False
    return word == "0" or word[0] != "0"


def read_natural(word):
    """The integer from 0 on that the word is; None if it is none."""
    return int(word) if is_natural(word) else None


def read_fraction(word):
    """The fraction that the word is; None if it is none."""
    parts = word[1:].split("/") if word.startswith("-") else word.split("/")
    if len(parts) > 2 or not all([is_natural(part) for part in parts]):
        return None
    n = -int(parts[0]) if word.startswith("-") else int(parts[0])
    value = (n, 1 if len(parts) == 1 else int(parts[1]))
    # -0 and n/1 are read, too, but nothing is written so.
    return value if is_fraction(value) and fraction_text(value) == word else None


def read_knot(word):
    """The knot that the word is; None if it is none."""
    knot = tuple([read_fraction(part) for part in word.split(":")])
    return knot if is_knot(knot) else None


def read_knots(words):
    """The tuple of the knots that these words are; None if they are none."""
    knots = tuple([read_knot(word) for word in words])
    return None if len(knots) == 0 or None in knots else knots


def read_name(word):
    """The name that the word is; None if it is none."""
    return word if is_name(word) else None


def read_names(word):
    """The tuple of the two or more different names that the word is; None if it is none."""
    names = word.split(",")
    if len(names) < 2 or len(set(names)) < len(names):
        return None
    return tuple(names) if all([is_name(name) for name in names]) else None


def read_item(word, kind):
    """The item of this kind that the word is, for knots a list of words; None if it is none."""
    if kind == "fraction":
        return read_fraction(word)
    if kind == "natural":
        return read_natural(word)
    if kind == "name":
        return read_name(word)
    return read_names(word) if kind == "names" else read_knots(word)


def read_words(words, kinds):
    """The tuple of the first word and the items of these kinds behind it; None if they are none.

    kinds is None for a first word behind which nothing can stand.
    """
    if kinds is None:
        return None
    parts = words[1:]
    if len(kinds) > 0 and kinds[-1] == "knots":
        parts = [*parts[:len(kinds) - 1], parts[len(kinds) - 1:]]
    if len(parts) != len(kinds):
        return None
    items = [read_item(parts[k], kinds[k]) for k in range(len(kinds))]
    return None if None in items else (words[0], *items)


def read_row(line):
    """The row that the line is; None if it is none."""
    words = line.split(" ")
    row = read_words(words, FORMS.get(words[0]))
    if row is not None and row[0] == "hand" and len(row[3]) != len(row[4]):
        return None
    return row


def table_text(table):
    """The text of a timetable: its knots."""
    return knots_text(table.knots())


def read_table(text):
    """The timetable with this text, a value of any kind."""
    knots = read_knots(text.split(" ")) if isinstance(text, str) else None
    if knots is None:
        raise NoText(0)
    return Timetable(knots)


def book_text(book):
    """The text of a log: a line for each row."""
    return "".join([row_text(row) + "\n" for row in book])


def read_book(text):
    """The list of the rows of the log with this text, a value of any kind."""
    if not isinstance(text, str):
        raise NoText(0)
    lines = text.split("\n")
    book = []
    for k in range(len(lines) - 1):
        row = read_row(lines[k])
        if row is None:
            raise NoText(k)
        book.append(row)
    # What stands behind the last newline is a line without one.
    if lines[-1] != "":
        raise NoText(len(book))
    return book
