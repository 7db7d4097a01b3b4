"""A slow track, written independently of the program, and tracks by the hundred."""

from copy import deepcopy
from fractions import Fraction
from random import Random

from helper import NAMES, ODD_VALUES, frac, number, spot_number

from handedpast.errors import TrackError
from handedpast.tracks import Track

CARRIERS = ["p", "q", "r", "come", "to", "hand", "zz", "o"]
LOADS = ["a", "b", "p", "lead", "leave", "to", "aa", "q"]


def way_height(way, t):
    """The position at the number t on a list of (time, position), all numbers."""
    for (start, here), (end, there) in zip(way, way[1:]):
        if start <= t <= end:
            return here + (there - here) * (t - start) / (end - start)
    return way[-1][1]


class SlowTrack:
    """What a Track does, with numbers of Python's own.

    Each load keeps its whole way since it came, so that contacts are seen as they began. The order at
    the middle between two times at which something may happen is found by sorting the copies there,
    those at one position as they were before.
    """

    def __init__(self, length=None):
        self.length = length
        self.now = Fraction(0)
        self.seats = []  # (carrier, load, lap), the copies in order
        self.places = {}  # of the carriers
        self.ways = {}  # of the loads
        self.log = []

    def height(self, load, t):
        return way_height(self.ways[load], t)

    def copy_height(self, seat, t):
        return self.height(seat[1], t) + seat[2] * (self.length or 0)

    def come(self, carrier, load, place):
        place = number(place)
        low = self.copy_height(self.seats[0], self.now) if self.seats else place
        lap = 0
        while self.length and place + lap * self.length < low:
            lap += 1
        while self.length and place + lap * self.length > low + self.length:
            lap -= 1
        x = place + lap * (self.length or 0)
        at = sum(self.copy_height(seat, self.now) < x for seat in self.seats)
        self.ways[load] = [(self.now, place)]
        self.places[carrier] = place
        self.seats.insert(at, (carrier, load, lap))
        self.log.append(("come", frac(self.now), carrier, load, frac(place)))

    def lead(self, load, knots):
        here = self.height(load, self.now)
        if self.ways[load][-1][0] < self.now:
            self.ways[load].append((self.now, here))
        self.ways[load].extend((number(t), number(x)) for t, x in knots)
        self.log.append(("lead", frac(self.now), load, tuple(knots)))

    def leave(self, carrier):
        seat = [seat for seat in self.seats if seat[0] == carrier][0]
        self.seats.remove(seat)
        del self.ways[seat[1]], self.places[carrier]
        self.log.append(("leave", frac(self.now), carrier))

    def to(self, t):
        t = number(t)
        stops = self.stops(t)
        for start, end in zip(stops, stops[1:]):
            before = self.seats
            self.seats = self.sorted_seats(start, (start + end) / 2)
            self.log.extend(self.hands(before, start))
            for carrier, load, _ in self.seats:
                self.places[carrier] += self.height(load, end) - self.height(load, start)
        self.now = t
        self.log.append(("to", frac(t)))

    def stops(self, t):
        """The ascending numbers from now to t at which something may happen."""
        turns = {time for way in self.ways.values() for time, _ in way if self.now < time < t}
        stops = sorted({self.now, t} | turns)
        found = set(stops)
        loads = list(self.ways)
        for start, end in zip(stops, stops[1:]):
            for k, one in enumerate(loads):
                for other in loads[:k]:
                    found.update(self.meetings(one, other, start, end))
        return sorted(found)

    def meetings(self, one, other, start, end):
        """The times between two at which two loads meet that are straight there."""
        low, high = [self.height(one, t) - self.height(other, t) for t in (start, end)]
        if low == high:
            return
        lap = self.length or 1
        for level in range(int(min(low, high) // lap) - 1, int(max(low, high) // lap) + 2):
            t = start + (end - start) * (level * lap - low) / (high - low)
            if start < t < end and (self.length or level == 0):
                yield t

    def around(self, seats):
        """The seats, on a ring also a lap behind and a lap ahead."""
        return [(carrier, load, lap + turn) for turn in ([-1, 0, 1] if self.length else [0])
                for carrier, load, lap in seats]

    def sorted_seats(self, start, middle):
        many = len(self.seats)
        copies = sorted(self.around(self.seats), key=lambda seat: self.copy_height(seat, middle))
        copies = copies[many:2 * many] if self.length else copies
        return [(seat[0], load, lap) for seat, (_, load, lap) in zip(self.seats, copies)]

    def hands(self, before, t):
        """The rows of the handovers at t, from the seats before to those now."""
        groups = {}
        for old, new in zip(self.around(before), self.around(self.seats)):
            groups.setdefault(self.copy_height(old, t), []).append((old, new))
        rows = {}
        for place in {self.copy_height(seat, t) for seat in before}:
            # Around a seat itself, not a lap further on, the group is whole.
            pairs = groups[place]
            if any(old != new for old, new in pairs):
                spot = frac(spot_number(place, self.length))
                rows[spot] = ("hand", frac(t), spot, tuple(old[0] for old, _ in pairs),
                              tuple(new[1] for _, new in pairs))
        return sorted(rows.values(), key=lambda row: number(row[2]))

    def carriers(self):
        names = [seat[0] for seat in self.seats]
        at = names.index(min(names)) if self.length and names else 0
        return names[at:] + names[:at]

    def holds(self):
        return {carrier: load for carrier, load, _ in self.seats}

    def answers(self):
        """What answers_of gives for the track."""
        return (frac(self.now), self.carriers(), self.holds(),
                {carrier: frac(x) for carrier, x in self.places.items()},
                {load: frac(self.height(load, self.now)) for load in self.ways})

    def resting(self, load):
        return self.ways[load][-1][0] <= self.now

    def free(self, place):
        spots = [spot_number(self.height(load, self.now), self.length) for load in self.ways]
        return spot_number(place, self.length) not in spots


def answers_of(track):
    """The time, the carriers, what each of them has, where it is, and where each load is."""
    carriers = track.carriers()
    loads = [track.has(carrier) for carrier in carriers]
    return (track.now, carriers, dict(zip(carriers, loads)), {carrier: track.where(carrier) for carrier in carriers},
            {load: track.at(load) for load in loads})


def random_knots(dice, slow, load):
    """Knots for a load: often those of another one, so that the loads go on together."""
    here = slow.height(load, slow.now)
    others = [way for other, way in slow.ways.items() if other != load and way[-1][0] > slow.now]
    if others and dice.random() < 0.4:
        way = dice.choice(others)
        lap = (slow.length or 0) * dice.randint(-1, 1)
        return tuple((frac(t), frac(x + lap)) for t, x in way if t > slow.now)
    times = sorted(slow.now + Fraction(k, 2) for k in dice.sample(range(1, 9), dice.randint(1, 3)))
    places = [here if dice.random() < 0.2 else Fraction(dice.randint(-8, 8), 2) for _ in times]
    return tuple((frac(t), frac(x)) for t, x in zip(times, places))


def random_operation(dice, slow, most=5):
    """An operation that raises no error on the track, a tuple as for do."""
    words = ["to"] * 4
    resting = [load for load in slow.ways if slow.resting(load)]
    if len(slow.seats) < most:
        words += ["come"] * (4 if len(slow.seats) < 3 else 2)
    if resting:
        words += ["lead"] * 9
    carriers = [carrier for carrier, load, _ in slow.seats if load in resting]
    if carriers:
        words += ["leave"]
    word = dice.choice(words)
    if word == "lead":
        load = dice.choice(resting)
        return ("lead", load, random_knots(dice, slow, load))
    if word == "leave":
        return ("leave", dice.choice(carriers))
    if word == "come":
        place = Fraction(dice.randint(-8, 8), 2)
        while not slow.free(place):
            place = Fraction(dice.randint(-8, 8), 2) + Fraction(1, dice.randint(1, 9))
        carrier = dice.choice([name for name in CARRIERS if name not in slow.places])
        return ("come", carrier, dice.choice([name for name in LOADS if name not in slow.ways]), frac(place))
    return ("to", frac(random_later(dice, slow)))


def random_later(dice, slow):
    """A number from now on, often one at which loads are together."""
    far = slow.now + Fraction(dice.choice([0, 1, 1, 2, 3, 4, 6, 8]), 2)
    stops = slow.stops(slow.now + 5)
    return dice.choice([far, dice.choice(stops)])


def perform(track, operation):
    """Performs an operation by its method."""
    return getattr(track, operation[0])(*operation[1:])


def random_tracks(many, seed, steps=14, lengths=(None, None, 1, 2, 3, 5, 50)):
    """Yields (track, slow track, length, dice) for as many tracks."""
    dice = Random(seed)
    for _ in range(many):
        length = dice.choice(lengths)
        track, slow = Track(length=length), SlowTrack(length)
        for _ in range(dice.randint(1, steps)):
            operation = random_operation(dice, slow)
            perform(slow, operation)
            perform(track, operation)
        yield track, slow, length, dice


def random_error(dice, slow):
    """An operation that raises an error, and the name of its class, with the value that is told."""
    odd = dice.choice(ODD_VALUES + ["A", "abcdefghi", "nobody"])
    carriers, loads = list(slow.places), list(slow.ways)
    unused = dice.choice(NAMES)
    kinds = [(("to", odd), "NoTime", None), (("to", frac(slow.now - Fraction(1, dice.randint(1, 9)))), "NoTime", None)]
    odd_name = odd if odd not in ["a", "nobody"] else "\u00e4"
    kinds.append((("come", odd_name, dice.choice(["a", odd_name, 7]), odd), "NoName", odd_name))
    kinds.append((("come", dice.choice(carriers + [unused]), odd_name, odd), "NoName", odd_name))
    kinds.append((("come", "nobody", "nothing", odd), "NoSpot", None))
    absent = odd_name if dice.random() < 0.5 else "nobody"
    kinds += [(("leave", absent), "NoCarrier", None), (("lead", absent, odd), "NoName", absent)]
    if carriers:
        taken = dice.choice(carriers)
        kinds.append((("come", taken, dice.choice(loads + ["nothing"]), odd), "Taken", taken))
        taken = dice.choice(loads)
        kinds.append((("come", "nobody", taken, odd), "Taken", taken))
        place = slow.height(taken, slow.now) + (slow.length or 0) * dice.randint(-3, 3)
        kinds.append((("come", "nobody", "nothing", frac(place)), "NoSpot", None))
    for carrier, load, _ in slow.seats:
        if not slow.resting(load):
            knots = dice.choice([odd, [(frac(slow.now + 1), (0, 1))]])
            kinds += [(("lead", load, knots), "NoRest", None), (("leave", carrier), "NoRest", None)]
        else:
            knots = [odd, [(frac(slow.now), (0, 1))], [(frac(slow.now + 1), odd)], [],
                     [(frac(slow.now + k + 1), (k, 1)) for k in range(40)],
                     [(frac(slow.now + 2), (0, 1)), (frac(slow.now + 1), (0, 1))]]
            kinds.append((("lead", load, dice.choice(knots)), "NoTable", None))
    return dice.choice(kinds)


def slow_wrong_row(book, length):
    """What wrong_row returns for a list of rows that have the form of some, by playing the slow track."""
    slow = SlowTrack(length)
    hands = None
    for k, row in enumerate(book):
        if row[0] == "hand":
            if hands is None:
                far = deepcopy(slow)
                far.to(frac(max([slow.now] + [t for way in slow.ways.values() for t, _ in way]) + 1))
                due = far.log[len(slow.log):-1]
                hands = []
            hands.append(row)
            if hands != due[:len(hands)]:
                return k
            continue
        if row[0] == "to":
            if number(row[1]) < slow.now:
                return k
            written = len(slow.log)
            slow.to(row[1])
            if slow.log[written:-1] != (hands or []):
                return k
            hands = None
            continue
        if hands is not None or row[1] != frac(slow.now):
            return k
        operation = (row[0], *row[2:])
        track = Track(length=length)
        try:
            track.do(operations_of(slow.log) + [operation])
        except TrackError:
            return k
        perform(slow, operation)
    return len(book) - len(hands) if hands is not None else None


def operations_of(book):
    """The operations that write the log."""
    return [row if row[0] == "to" else (row[0], *row[2:]) for row in book if row[0] != "hand"]
