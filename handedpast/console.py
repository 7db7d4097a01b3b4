"""A console: rows of text that tell a track what to do, and ask it."""

from handedpast.errors import NoCarrier, NoName, NoRest, NoSpot, NoTable, NoTime, NoTrack, Taken
from handedpast.texts import fraction_text, read_words, row_text
from handedpast.tracks import Track

# What follows the word of each row.
ASKS = {
    "line": (),
    "ring": ("natural",),
    "come": ("name", "name", "fraction"),
    "lead": ("name", "knots"),
    "leave": ("name",),
    "to": ("fraction",),
    "has": ("name",),
    "where": ("name",),
    "at": ("name",),
    "carriers": (),
    "book": (),
}


def answer_of(track, asked):
    """What the track answers, once it has done what is asked."""
    word = asked[0]
    if word == "has":
        return track.has(asked[1])
    if word == "where":
        return fraction_text(track.where(asked[1]))
    if word == "at":
        return fraction_text(track.at(asked[1]))
    if word == "carriers":
        return " ".join(track.carriers()) if len(track.carriers()) > 0 else "none"
    if word == "book":
        return str(len(track.book()))
    many = len(track.book())
    track.do([asked])
    # The last row is that of the operation itself.
    hands = track.book()[many:-1]
    return "; ".join([row_text(row) for row in hands]) if len(hands) > 0 else "ok"


class Console:
    """Answers rows of text, which are about one track at a time."""

    def __init__(self):
        self._track = None

    def answer(self, row):
        """The answer to one row."""
        words = row.split(" ")
        asked = read_words(words, ASKS.get(words[0]))
        if self._track is None and (asked is None or asked[0] not in ("line", "ring")):
            return "no track"
        if asked is None:
            return "no row"
        try:
            return self._do(asked)
        except NoTable:
            return "refused notable"
        except NoTime:
            return "refused notime"
        except NoTrack:
            return "refused notrack"
        except NoName:
            return "refused noname"
        except Taken:
            return "refused taken"
        except NoCarrier:
            return "refused nocarrier"
        except NoRest:
            return "refused norest"
        except NoSpot:
            return "refused nospot"

    def rows(self, text):
        """Yields what a new console answers to the lines of the text."""
        lines = text.split("\n")
        if lines[-1] == "":
            lines = lines[:-1]
        console = Console()
        for line in lines:
            yield console.answer(line)

    def _do(self, asked):
        """Does what is asked, and returns the answer."""
        if asked[0] == "line":
            self._track = Track()
        elif asked[0] == "ring":
            self._track = Track(length=asked[1])
        else:
            return answer_of(self._track, asked)
        return "ok"
