"""Item 12 of orders, play, counting and shares: what holds for all of them together."""

import unittest
from fractions import Fraction

from helper import RING, begin_number, frac, height, number, random_plays, slow_crossings, spot_number, table
from helper import times_of

from handedpast.counting import held_at, holder_at, place_at, rank_of
from handedpast.orders import order_at
from handedpast.pairs import crossing_counts, crossings
from handedpast.play import Play
from handedpast.shares import displaced, shared, spread, walked_by
from handedpast.tables import Timetable


def few(dice, items, many):
    """At most that many of the items, in their order."""
    return [items[k] for k in sorted(dice.sample(range(len(items)), min(len(items), many)))]


def numbered(tables, length):
    """The names of the loads with which the carriers start, in the order of the carriers."""
    begin = begin_number(tables)
    return sorted(tables, key=lambda name: spot_number(height(tables[name], begin), length))


class ChangedTracks(unittest.TestCase):
    """Compares all answers of a track with those of one that was made of it."""

    def compare(self, old, new, time, place, name=lambda text: text, turn=1):
        """old and new are pairs (tables, length); time, place and name tell what becomes of each of these.

        turn is -1 if the order turns round.
        """
        (tables, length), (made, made_length) = old, new
        simulation, other = Play(tables, length=length), Play(made, length=made_length)
        starts = numbered(tables, length)
        made_starts = numbered(made, made_length)
        to = [made_starts.index(name(word)) for word in starts]
        begin = begin_number(tables)
        shifts = []
        for k in range(len(tables)):
            shift = number(other.place(to[k], frac(time(begin)))) - place(number(simulation.place(k, frac(begin))))
            shifts.append(shift)
            self.assertEqual(spot_number(shift, made_length), 0)
        for t in times_of(tables, length)[::2]:
            u = frac(time(t))
            t = frac(t)
            copies = order_at(tables, t, length=length)
            made_copies = order_at(made, u, length=made_length)
            if length is None:
                self.assertEqual(made_copies, [name(word) for word in copies][::turn])
            else:
                # The first copy in [0, L) may be another one, but the sequence is the same.
                words = [name(word) for word, _ in copies][::turn]
                made_words = [word for word, _ in made_copies]
                at = words.index(made_words[0])
                self.assertEqual(made_words, words[at:] + words[:at])
            for k, word in enumerate(starts):
                holder = simulation.holder(word, t)
                self.assertEqual(other.holder(name(word), u), to[holder])
                self.assertEqual(holder_at(made, name(word), u, length=made_length), to[holder])
                gain = rank_of(tables, word, t, length=length) - k
                made_gain = rank_of(made, name(word), u, length=made_length) - made_starts.index(name(word))
                self.assertEqual(made_gain, turn * gain)
                moved = place(number(simulation.place(k, t))) + shifts[k]
                self.assertEqual(number(other.place(to[k], u)), moved)
                self.assertEqual(number(place_at(made, to[k], u, length=made_length)), moved)
            if length is not None:
                self.assertEqual(shared(made, u, made_length),
                                 None if shared(tables, t, length) is None else turn * shared(tables, t, length))
        self.compare_handovers(simulation.handovers(), other.handovers(), made_length, to, time, place, name, turn)

    def compare_handovers(self, rows, made_rows, made_length, to, time, place, name, turn):
        wanted = []
        for t, x, carriers, names in rows:
            spot = spot_number(place(number(x)), made_length)
            wanted.append((time(number(t)), spot, tuple(to[k] for k in carriers)[::turn],
                           tuple(map(name, names))[::turn]))
        found = [(number(t), number(x), carriers, names) for t, x, carriers, names in made_rows]
        self.assertEqual(found, sorted(wanted))

    def test_moved(self):
        for tables, length, dice in random_plays(40, 71):
            for shift in [Fraction(dice.randint(-50, 50), 3), 10 ** 40]:
                made = {name: old.moved(frac(shift)) for name, old in tables.items()}
                self.compare((tables, length), (made, length), lambda t: t, lambda x: x + shift)

    def test_later(self):
        for tables, length, dice in random_plays(40, 72):
            shift = Fraction(dice.randint(-50, 50), 7)
            made = {name: old.later(frac(shift)) for name, old in tables.items()}
            self.compare((tables, length), (made, length), lambda t: t + shift, lambda x: x)

    def test_scaled(self):
        for tables, length, dice in random_plays(40, 73):
            for factor in [dice.choice([2, 3, 10 ** 30]), dice.choice([-1, -2, -7])]:
                made = {name: old.scaled((factor, 1)) for name, old in tables.items()}
                made_length = None if length is None else abs(factor) * length
                self.compare((tables, length), (made, made_length), lambda t: t, lambda x: factor * x,
                             turn=1 if factor > 0 else -1)

    def test_another_order_and_other_names(self):
        for tables, length, dice in random_plays(40, 74):
            words = dice.sample("b c x y zz aaaaaaaa".split(), len(tables))
            names = dict(zip(tables, words))
            items = [(names[name], old) for name, old in tables.items()]
            dice.shuffle(items)
            self.compare((tables, length), (dict(items), length), lambda t: t, lambda x: x, lambda name: names[name])
            self.compare((tables, length), (dict(reversed(tables.items())), length), lambda t: t, lambda x: x)

    def test_further_knots(self):
        for tables, length, dice in random_plays(40, 75):
            made = {}
            for name, old in tables.items():
                begin = begin_number(tables)
                times = {begin + Fraction(k, 7) for k in dice.sample(range(1, 60), 9)} | {
                    number(t) for t, _ in old.knots()}
                made[name] = table(*[(t, height(old, t)) for t in sorted(times)])
                self.assertEqual(made[name], old)
            self.compare((tables, length), (made, length), lambda t: t, lambda x: x)
            some = few(dice, times_of(tables, length), 3)
            for k in range(len(tables)):
                for t in some:
                    self.assertEqual(Play(made, length=length).spells(k, frac(t)),
                                     Play(tables, length=length).spells(k, frac(t)))
                    if length is not None:
                        self.assertEqual(walked_by(made, k, frac(t), length), walked_by(tables, k, frac(t), length))


class TogetherTest(unittest.TestCase):
    def test_no_carrier_passes_another(self):
        for tables, length, dice in random_plays(80, 76):
            simulation = Play(tables, length=length)
            times = times_of(tables, length)
            rows = []
            for t in times:
                places = [number(simulation.place(k, frac(t))) for k in range(len(tables))]
                rows.append(places)
                self.assertEqual(places, sorted(places))
                if length is not None:
                    self.assertLessEqual(places[-1] - places[0], length)
                spots = sorted(spot_number(x, length) for x in places)
                self.assertEqual(spots, sorted(spot_number(height(made, t), length) for made in tables.values()))
                for name, made in tables.items():
                    place = places[simulation.holder(name, frac(t))]
                    self.assertEqual(spot_number(place - height(made, t), length), 0)
                holders = [simulation.holder(name, frac(t)) for name in tables]
                self.assertEqual(sorted(holders), list(range(len(tables))))
            # A step between two stops is not longer than that of the load that is held there.
            for start, end, before, after in zip(times, times[1:], rows, rows[1:]):
                for k in range(len(tables)):
                    made = tables[simulation.held(k, frac(end))]
                    self.assertEqual(after[k] - before[k], height(made, end) - height(made, start))

    def test_two_loads_change_their_order_when_their_timetables_cross(self):
        many = 0
        for tables, length, _ in random_plays(150, 77):
            rows = list(Play(tables, length=length).handovers())
            for one in tables:
                for other in tables:
                    if one < other:
                        wanted = slow_crossings(tables[one], tables[other], length)
                        self.assertEqual(self.exchanges(tables, length, rows, one, other), wanted)
                        found = list(crossings(tables[one], tables[other], length=length,
                                               since=tables[one].begin()))
                        self.assertEqual(found, wanted)
                        many += len(wanted)
        self.assertGreater(many, 300)

    def exchanges(self, tables, length, rows, one, other):
        """The (time, direction) of the handovers in which two loads change their order."""
        simulation = Play(tables, length=length)
        found = []
        for t, spot, carriers, names in rows:
            if one in names and other in names:
                before = [simulation.held(k, t) for k in carriers]
                self.assertEqual(sorted(before), sorted(names))
                ways = [words.index(one) - words.index(other) for words in (before, names)]
                if ways[0] * ways[1] < 0:
                    found.append((t, 1 if ways[1] > 0 else -1))
        return found

    def test_ranks_grow_by_the_crossings(self):
        for tables, length, dice in random_plays(80, 78):
            starts = numbered(tables, length)
            begin = frac(begin_number(tables))
            for t in few(dice, times_of(tables, length), 4):
                t = frac(t)
                ranks = {name: rank_of(tables, name, t, length=length) for name in tables}
                for name in tables:
                    counts = [crossing_counts(tables[name], tables[other], length=length, since=begin, until=t)
                              for other in tables if other != name]
                    gain = sum(forward - backward for forward, backward in counts)
                    self.assertEqual(ranks[name], starts.index(name) + gain)
                self.assertEqual(sum(ranks.values()), sum(range(len(tables))))
                copies = order_at(tables, t, length=length)
                if length is None:
                    self.assertEqual(copies, sorted(tables, key=lambda name: ranks[name]))
                else:
                    self.check_sequence(tables, length, ranks, copies)

    def check_sequence(self, tables, length, ranks, copies):
        """Whether the copies in [0, L) are neighbours in the endless sequence of the ranks."""
        laps = {name: height(made, begin_number(tables)) // length for name, made in tables.items()}
        indexes = [ranks[name] + (m + laps[name]) * len(tables) for name, m in copies]
        self.assertEqual(indexes, list(range(indexes[0], indexes[0] + len(tables))))

    def test_later_knots_change_nothing(self):
        for tables, length, dice in random_plays(40, 79):
            begin = begin_number(tables)
            t = dice.choice([u for u in times_of(tables, length)])
            made = {}
            for name, old in tables.items():
                knots = [knot for knot in old.knots() if number(knot[0]) < t] or old.knots()[:1]
                if t > begin:
                    knots = knots + [(frac(t), old.at(frac(t)))]
                end = (t + dice.randint(1, 3), Fraction(dice.randint(-9, 9), 2))
                made[name] = Timetable(knots + [(frac(end[0]), frac(end[1]))])
            for u in [u for u in times_of(tables, length) if u <= t]:
                self.check_same(tables, made, length, frac(u))
            rows = [row for row in Play(tables, length=length).handovers() if number(row[0]) < t]
            found = [row for row in Play(made, length=length).handovers() if number(row[0]) < t]
            self.assertEqual(found, rows)

    def check_same(self, tables, made, length, t):
        """Whether two tracks give the same answers at a time."""
        simulation, other = Play(tables, length=length), Play(made, length=length)
        self.assertEqual(order_at(made, t, length=length), order_at(tables, t, length=length))
        for name in tables:
            self.assertEqual(other.holder(name, t), simulation.holder(name, t))
            self.assertEqual(rank_of(made, name, t, length=length), rank_of(tables, name, t, length=length))
        for k in range(len(tables)):
            self.assertEqual(other.place(k, t), simulation.place(k, t))
            self.assertEqual(other.spells(k, t), simulation.spells(k, t))
            self.assertEqual(held_at(made, k, t, length=length), held_at(tables, k, t, length=length))
            self.assertEqual(place_at(made, k, t, length=length), place_at(tables, k, t, length=length))
            if length is not None:
                self.assertEqual(displaced(made, k, t, length), displaced(tables, k, t, length))
                self.assertEqual(walked_by(made, k, t, length), walked_by(tables, k, t, length))
        if length is not None:
            self.assertEqual(spread(made, t, length), spread(tables, t, length))

    def test_backward(self):
        many = 0
        for tables, length, _ in random_plays(150, 80):
            begin = begin_number(tables)
            stops = times_of(tables, length)
            end = stops[-1]
            spots = {spot_number(height(made, end), length) for made in tables.values()}
            if len(spots) < len(tables):
                continue
            many += 1
            back = {}
            for name, old in tables.items():
                knots = {number(t): height(old, number(t)) for t, _ in old.knots()}
                knots[end] = height(old, end)
                back[name] = table(*[(begin + end - t, x) for t, x in sorted(knots.items(), reverse=True)])
            simulation, other = Play(tables, length=length), Play(back, length=length)
            # The carriers of the way back, by the loads that they start with.
            to = [other.holder(simulation.held(k, frac(end)), frac(begin)) for k in range(len(tables))]
            self.assertEqual(sorted(to), list(range(len(tables))))
            for k in range(len(tables)):
                shift = number(simulation.place(k, frac(end))) - number(other.place(to[k], frac(begin)))
                for t in stops:
                    place = number(other.place(to[k], frac(begin + end - t)))
                    self.assertEqual(place + shift, number(simulation.place(k, frac(t))))
                    self.assertEqual(spot_number(shift, length), 0)
            for t in stops:
                spots = {spot_number(height(made, t), length) for made in tables.values()}
                # Loads that are together are held as they were just before, on each of the two ways.
                if len(spots) == len(tables):
                    self.assertEqual([other.held(to[k], frac(begin + end - t)) for k in range(len(tables))],
                                     [simulation.held(k, frac(t)) for k in range(len(tables))])
            if length is not None:
                for k in range(len(tables)):
                    self.assertEqual(walked_by(back, to[k], frac(end), length), walked_by(tables, k, frac(end), length))
        self.assertGreater(many, 40)

    def test_errors_change_nothing(self):
        tables = dict(RING)
        calls = [lambda: order_at(tables, (-1, 1), length=10), lambda: Play(tables, length=0),
                 lambda: rank_of(tables, "x", (1, 1), length=10), lambda: place_at(tables, 2, (1, 1), length=10),
                 lambda: spread(tables, (-1, 1), 10), lambda: walked_by(tables, 0, (1, 1), None)]
        for call in calls:
            with self.assertRaises(ValueError):
                call()
        self.assertEqual(list(tables.items()), list(RING.items()))


if __name__ == "__main__":
    unittest.main()
