"""A track: carriers come with their loads, which are led on and on, and leave; all is logged."""

from handedpast.errors import NoBook, NoCarrier, NoName, NoRest, NoSpot, NoTime, Taken
from handedpast.fractions import ZERO, is_fraction, least_of, order_of, rest_of, sum_of
from handedpast.orders import lap_of, spot_of
from handedpast.pairs import check_length, level_at
from handedpast.play import copy_at, exchanged, handovers_at, is_name, meeting_times, place_of, turning_times
from handedpast.tables import Timetable, plain_knots

# How many arguments each operation has.
ARGUMENTS = {"come": 3, "lead": 2, "leave": 1, "to": 1}


def is_operation(value):
    """Whether value, of any kind, is a tuple of an operation's name and its arguments."""
    if not isinstance(value, tuple) or len(value) == 0 or not isinstance(value[0], str):
        return False
    return value[0] in ARGUMENTS and len(value) == 1 + ARGUMENTS[value[0]]


def check_operations(operations):
    """Raises NoBook unless operations, of any kind, is a list of operations."""
    if not isinstance(operations, (list, tuple)):
        raise NoBook(0)
    for row in range(len(operations)):
        if not is_operation(operations[row]):
            raise NoBook(row)


def outlook_of(table, t):
    """The way of a load from t on, and until when it cannot be led: None if it rests at t."""
    knots = [knot for knot in table.knots() if order_of(t, knot[0]) < 0]
    return (plain_knots([(t, table.at(t)), *knots]), None if len(knots) == 0 else knots[-1][0])


class Scene:
    """What is on a track at a time, each carrier with the load that it brought there.

    A slot is the copy (load, lap) that a carrier is at, as in the simulation of a Play. The seat
    of the same index is the carrier's name and how many laps its unrolled position is ahead of
    that copy. A scene is never changed, so that a track can always return to an earlier one.
    """

    def __init__(self, length, time, seats, slots, tables):
        self.length = length
        self.time = time
        self.seats = seats
        self.slots = slots
        self.tables = tables

    def names(self):
        """The names of the carriers, in the order of the seats."""
        return [name for name, _ in self.seats]

    def seat_of(self, carrier):
        """The index of the carrier, a value of any kind."""
        names = self.names()
        if carrier not in names:
            raise NoCarrier("there is no such carrier on the track")
        return names.index(carrier)

    def first_seat(self):
        """The index of the carrier that is named first: on a ring the one with the least name."""
        names = self.names()
        return 0 if self.length is None or len(names) == 0 else names.index(min(names))

    def position(self, index):
        """The position of the copy with this index in the endless sequence."""
        return place_of(self.tables, copy_at(self.slots, index), self.time, self.length)

    def where(self, index):
        """The unrolled position of the carrier with this index."""
        return sum_of(self.position(index), level_at(self.seats[index][1], self.length))

    def table_of(self, load):
        """The timetable of the load, a value of any kind."""
        if not is_name(load) or load not in self.tables:
            raise NoName(load)
        return self.tables[load]

    def came(self, carrier, load, place):
        """The scene with one more carrier, whose load rests."""
        self._need_new(carrier, load)
        self._need_free(place)
        # The copy that is less than a lap ahead of the first carrier is in order behind some index.
        lap = 0 if len(self.seats) == 0 else -lap_of(rest_of(place, self.position(0)), self.length)
        x = sum_of(place, level_at(lap, self.length))
        index = len([k for k in range(len(self.seats)) if order_of(self.position(k), x) < 0])
        seats = [*self.seats[:index], (carrier, -lap), *self.seats[index:]]
        slots = [*self.slots[:index], (load, lap), *self.slots[index:]]
        tables = {**self.tables, load: Timetable.resting(self.time, place)}
        return Scene(self.length, self.time, seats, slots, tables)

    def led(self, load, knots):
        """The scene in which the load goes on with these knots."""
        table = self.table_of(load)
        self._need_rest(table)
        # Knots before now do not count, so that a load may be led any number of times.
        here = Timetable.resting(self.time, table.at(self.time))
        tables = {**self.tables, load: here.led_on(self.time, knots)}
        return Scene(self.length, self.time, self.seats, self.slots, tables)

    def left(self, carrier):
        """The scene without the carrier and its load."""
        index = self.seat_of(carrier)
        load = self.slots[index][0]
        self._need_rest(self.tables[load])
        seats = [*self.seats[:index], *self.seats[index + 1:]]
        slots = [*self.slots[:index], *self.slots[index + 1:]]
        tables = {name: self.tables[name] for name in self.tables if name != load}
        return Scene(self.length, self.time, seats, slots, tables)

    def hands(self):
        """The rows of the handovers at this time, ascending by spot."""
        if len(self.seats) == 0:
            return []
        found = []
        for t, spot, carriers, loads in handovers_at(self.tables, self.slots, self.time, self.length):
            found.append(("hand", t, spot, tuple([self.seats[index][0] for index in carriers]), loads))
        return found

    def slots_after(self):
        """The slots just after this time."""
        if len(self.slots) == 0:
            return []
        return exchanged(self.tables, self.slots, self.time, self.length)

    def reached(self, t, slots):
        """The scene at the time t, which the carriers reach in these slots."""
        return Scene(self.length, t, self.seats, slots, self.tables)

    def following(self, t):
        """The scene at the next time at which something may be exchanged, but not later than at t."""
        slots = self.slots_after()
        times = [t, *turning_times(self.tables, self.time)]
        if len(slots) > 0:
            times.extend(meeting_times(self.tables, slots, self.time, self.length))
        return self.reached(least_of(times), slots)

    def outlook(self):
        """All on which the answers of a track depend, now and later."""
        first = self.first_seat()
        seats = []
        for index in range(first, first + len(self.seats)):
            k = index % len(self.seats)
            # Where all carriers are at one spot, only this tells which of them is the rearmost.
            ahead = rest_of(self.position(index), self.position(first))
            seats.append((self.seats[k][0], self.slots[k][0], self.where(k), ahead))
        loads = {name: outlook_of(self.tables[name], self.time) for name in self.tables}
        return (self.length, self.time, seats, loads)

    def _need_new(self, carrier, load):
        """Raises NoName or Taken unless these are free names."""
        for name in (carrier, load):
            if not is_name(name):
                raise NoName(name)
        if carrier in self.names():
            raise Taken(carrier)
        if load in self.tables:
            raise Taken(load)

    def _need_free(self, place):
        """Raises NoSpot unless place, of any kind, is a position at which nobody is."""
        if not is_fraction(place):
            raise NoSpot("a place is a fraction")
        spots = [spot_of(self.position(k), self.length) for k in range(len(self.seats))]
        if spot_of(place, self.length) in spots:
            raise NoSpot("a carrier is at this spot")

    def _need_rest(self, table):
        """Raises NoRest if the timetable has knots after this time."""
        if not table.rests_at(self.time):
            raise NoRest("the load has knots after this time")


def empty_scene(length):
    """The scene with which a track begins."""
    return Scene(length, ZERO, [], [], {})


class Track:
    """A line or a ring with carriers, at a time that advances, and the log of its operations."""

    def __init__(self, *, length=None):
        check_length(length)
        self._scene = empty_scene(length)
        self._log = []

    def __eq__(self, other):
        return isinstance(other, Track) and self._scene.outlook() == other._scene.outlook()

    @property
    def now(self):
        """The current time."""
        return self._scene.time

    def come(self, carrier, load, place):
        """Adds a carrier with a load that rests at place."""
        self._go_on(self._scene.came(carrier, load, place), [("come", self.now, carrier, load, place)])

    def lead(self, load, knots):
        """Lets the load follow these knots from now on."""
        self._go_on(self._scene.led(load, knots), [("lead", self.now, load, tuple(knots))])

    def leave(self, carrier):
        """Removes the carrier with the load that it holds."""
        self._go_on(self._scene.left(carrier), [("leave", self.now, carrier)])

    def to(self, t):
        """Advances to t, with all handovers before it."""
        if not is_fraction(t) or order_of(t, self.now) < 0:
            raise NoTime("the time is no fraction from now on")
        scene = self._scene
        written = []
        while order_of(scene.time, t) < 0:
            written.extend(scene.hands())
            scene = scene.following(t)
        self._go_on(scene, [*written, ("to", t)])

    def carriers(self):
        """The names of the carriers in order, on a ring from the least one on."""
        names = self._scene.names()
        first = self._scene.first_seat()
        return [*names[first:], *names[:first]]

    def has(self, carrier):
        """The name of the load that the carrier holds."""
        return self._scene.slots[self._scene.seat_of(carrier)][0]

    def where(self, carrier):
        """The carrier's position, unrolled from the place where it came."""
        return self._scene.where(self._scene.seat_of(carrier))

    def at(self, load):
        """The load's position, unrolled from the place where it came."""
        return self._scene.table_of(load).at(self.now)

    def attempt(self, work):
        """Calls work with the track; if this raises an exception, the track is as before."""
        scene, log = self._scene, self._log
        try:
            result = work(self)
            scene, log = self._scene, self._log
            return result
        finally:
            self._scene, self._log = scene, log

    def do(self, operations):
        """Performs all these operations, or none of them if one raises an error."""
        check_operations(operations)

        def perform_all(track):
            for operation in operations:
                track._perform(operation)

        self.attempt(perform_all)

    def book(self):
        """The log: the list of the rows of all that happened."""
        return list(self._log)

    def twin(self):
        """An independent copy."""
        other = Track(length=self._scene.length)
        other._go_on(self._scene, self._log)
        return other

    def _perform(self, operation):
        """Performs one operation, a tuple of its name and its arguments."""
        word, *arguments = operation
        if word == "come":
            self.come(*arguments)
        elif word == "lead":
            self.lead(*arguments)
        elif word == "leave":
            self.leave(*arguments)
        else:
            self.to(*arguments)

    def _go_on(self, scene, written):
        """Takes on the scene, and writes rows into the log."""
        self._scene = scene
        # Always a new list: an attempt that fails goes back to the earlier one.
        self._log = [*self._log, *written]
