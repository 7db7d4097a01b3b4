"""Item 15 of keeping, tracks, books and broad: logs that were changed are those of changed tracks."""

import unittest
from fractions import Fraction

from helper import NAMES, frac, number, random_plays, spot_number
from slow_tracks import answers_of, operations_of, random_tracks

from handedpast.books import again, wrong_row
from handedpast.play import Play
from handedpast.tracks import Track


def same(value):
    return value


def changed_row(row, time, place, name, spot, turn):
    """A row of a log after a change of times, places and names; the order turns round if turn is -1."""
    word, t = row[0], frac(time(number(row[1])))
    if word == "come":
        return (word, t, name(row[2]), name(row[3]), frac(place(number(row[4]))))
    if word == "lead":
        return (word, t, name(row[2]), tuple((frac(time(number(u))), frac(place(number(x)))) for u, x in row[3]))
    if word == "hand":
        return (word, t, frac(spot(number(row[2]))), tuple(map(name, row[3]))[::turn], tuple(map(name, row[4]))[::turn])
    return (word, t, *map(name, row[2:]))


def in_order(book):
    """The log with the handovers between two other rows in order."""
    found = []
    hands = []
    for row in book:
        if row[0] == "hand":
            hands.append(row)
            continue
        found.extend(sorted(hands, key=lambda hand: (number(hand[1]), number(hand[2]))))
        found.append(row)
        hands = []
    return found


class ChangedLogs(unittest.TestCase):
    def compare(self, track, length, made_length, time=same, place=same, name=same, turn=1, wait=None):
        """Whether the changed log is that of the track with the changed operations."""
        def spot(x):
            return spot_number(place(x), made_length)

        book = track.book()
        changed = in_order([changed_row(row, time, place, name, spot, turn) for row in book])
        if wait is not None:
            changed.insert(0, ("to", frac(wait)))
        self.assertIsNone(wrong_row(changed, length=made_length))
        made = Track(length=made_length)
        made.do(operations_of(changed))
        self.assertEqual(made.book(), changed)
        self.assertEqual(again(changed, length=made_length), made)
        _, carriers, holds, places, loads = answers_of(track)
        _, made_carriers, made_holds, made_places, made_loads = answers_of(made)
        self.assertEqual(made_holds, {name(one): name(load) for one, load in holds.items()})
        self.assertEqual(made_loads, {name(one): frac(place(number(x))) for one, x in loads.items()})
        self.assertEqual(made_places, {name(one): frac(place(number(x))) for one, x in places.items()})
        carriers = [name(one) for one in carriers][::turn]
        at = carriers.index(min(carriers)) if carriers and length is not None else 0
        self.assertEqual(made_carriers, carriers[at:] + carriers[:at])
        # Without one of its handovers, the row in its place is the first wrong one.
        hands = [k for k, row in enumerate(changed) if row[0] == "hand"]
        if hands:
            self.assertEqual(wrong_row(changed[:hands[-1]] + changed[hands[-1] + 1:], length=made_length), hands[-1])

    def test_other_names(self):
        for track, _, length, dice in random_tracks(80, 151):
            words = dict(zip(NAMES + ["come", "to", "hand", "lead", "leave", "p", "zz", "o"], [
                "to", "come", "hand", "leave", "lead", "c", "d", "e", "f", "g", "h", "i", "abcdefgh", "zzzzzzzz",
                "l", "m", "n", "ooo", "pp", "qq"]))
            self.compare(track, length, length, name=lambda one: words.get(one, one + "x"))

    def test_moved(self):
        for track, _, length, dice in random_tracks(80, 152):
            for shift in [Fraction(dice.randint(-99, 99), 7), dice.choice([-1, 1, 10 ** 30]) * (length or 1)]:
                self.compare(track, length, length, place=lambda x: x + shift)

    def test_later(self):
        for track, _, length, dice in random_tracks(60, 153):
            wait = Fraction(dice.randint(1, 99), dice.randint(1, 9))
            self.compare(track, length, length, time=lambda t: t + wait, wait=wait)

    def test_stretched(self):
        for track, _, length, dice in random_tracks(60, 154):
            factor = Fraction(dice.randint(1, 99), dice.randint(1, 9))
            self.compare(track, length, length, time=lambda t: t * factor)

    def test_scaled(self):
        for track, _, length, dice in random_tracks(60, 155):
            for factor in [2, 7, 10 ** 30]:
                self.compare(track, length, length and length * factor, place=lambda x: x * factor)

    def test_turned_round(self):
        for track, _, length, dice in random_tracks(120, 156):
            self.compare(track, length, length, place=lambda x: -x, turn=-1)

    def test_laps_of_one_load(self):
        """A load that comes a lap further on, and is led so, is at the same spots."""
        for track, _, length, dice in random_tracks(100, 157, lengths=(1, 2, 3, 5)):
            coming = [row for row in track.book() if row[0] == "come"]
            if not coming:
                continue
            _, _, carrier, load, _ = dice.choice(coming)
            laps = dice.choice([-1, 1, 7]) * length
            changed = []
            for row in track.book():
                if row[0] == "come" and row[3] == load:
                    row = (*row[:4], frac(number(row[4]) + laps))
                elif row[0] == "lead" and row[2] == load:
                    row = (*row[:3], tuple((t, frac(number(x) + laps)) for t, x in row[3]))
                changed.append(row)
            self.assertIsNone(wrong_row(changed, length=length))
            made = again(changed, length=length)
            holds = answers_of(track)[2]
            self.assertEqual(answers_of(made)[2], holds)
            for one, at in answers_of(track)[4].items():
                self.assertEqual(number(made.at(one)), number(at) + (laps if one == load else 0))


class PlayTest(unittest.TestCase):
    """A track on which the loads of a Play come and are led has the handovers of this Play in its log."""

    def test_handovers(self):
        many = 0
        for tables, length, dice in random_plays(150, 158):
            begin = next(iter(tables.values())).begin()
            wait = Fraction(dice.randint(0, 8), 2) - number(begin)
            moved = {name: made.later(frac(wait)) for name, made in tables.items()}
            start = frac(number(begin) + wait)
            # Operations at one time may stand in any order.
            names = list(moved)
            dice.shuffle(names)
            track = Track(length=length)
            track.to(start)
            for name in names:
                track.come(name, name, moved[name].at(start))
                if len(moved[name].knots()) > 1:
                    track.lead(name, moved[name].knots()[1:])
            end = frac(number(start) + 50)
            if dice.random() < 0.5:
                track.to(frac(number(start) + Fraction(dice.randint(1, 20), 2)))
            track.to(end)
            simulation = Play(moved, length=length)
            carriers = [simulation.held(k, start) for k in range(len(moved))]
            wanted = [("hand", t, x, tuple(carriers[k] for k in numbers), loads)
                      for t, x, numbers, loads in simulation.handovers()]
            self.assertEqual([row for row in track.book() if row[0] == "hand"], wanted)
            many += len(wanted)
            for k, carrier in enumerate(carriers):
                self.assertEqual(track.has(carrier), simulation.held(k, end))
                way = number(simulation.place(k, end)) - number(simulation.place(k, start))
                self.assertEqual(number(track.where(carrier)), number(moved[carrier].at(start)) + way)
        self.assertGreater(many, 300)


if __name__ == "__main__":
    unittest.main()
