import itertools
import random
import unittest

from floorways.books import Book
from floorways.carriers import Carrier, Cart, Crawler, Runner, carrier_of
from floorways.errors import BadCell, BadCharge, BadKind, BadStops, Busy, Closed, NoCarrier, NoReserve, Taken
from floorways.fleets import Fleet
from floorways.floors import Floor
from floorways.meets import meetings
from floorways.seeks import Found, Shut
from plain import (
    FLOORS, GREAT, KINDS, NO_NUMBERS, Telling, fleet_of, held, parts, picture, plain_need, plain_place, plain_sought,
    plain_tick)

NO_KINDS = (
    "", "carrier", "Cart", "cart ", "carts", None, True, False, 0, 1, 1.5, [], ["cart"], (), ("cart",), {}, {"cart"},
    b"cart", object(), Cart, Cart(20))
NO_CELLS = NO_NUMBERS + (-1, -GREAT, GREAT, "1", Floor(["."]))
NO_STOPS = tuple(thing for thing in NO_NUMBERS if thing != [0]) + (
    0, 1, -1, GREAT, (1, 2), "1", range(2), {1: 2}, Floor(["."]), [[]], [[1]], [(1,)], [1, None])
LONG = ["+...."]


class PlainFleet:
    """What [16] says, done plainly: where each one is and its charge, tick by tick."""

    def __init__(self, floor):
        self.floor = floor
        self.now = 0
        self.rows = []

    def may_stand(self, kind, cell):
        return is_plain(cell) and self.floor.has(cell) and plain_tick(self.floor, kind, 60, 0, cell, cell) is not None

    def ways(self):
        return {number: row["way"] for number, row in enumerate(self.rows)}

    def place(self, number):
        return plain_place(self.rows[number]["way"], self.now)

    def is_idle(self, number):
        begin, cells = self.rows[number]["way"]
        return self.now - begin >= len(cells) - 1

    def picture(self):
        rows = []
        for number, row in enumerate(self.rows):
            told = (self.place(number), row["charge"], row["way"], self.is_idle(number))
            rows.append((number, row["kind"], row["full"]) + told)
        return (self.now, rows, self.ways())

    def pass_time(self, ticks):
        for tick in range(ticks):
            for row in self.rows:
                cells = (plain_place(row["way"], self.now), plain_place(row["way"], self.now + 1))
                row["charge"] = plain_tick(self.floor, row["kind"], row["full"], row["charge"], *cells)
            self.now += 1

    def add(self, kind, full, cell, charge):
        """The number, or the refusal's class."""
        if not isinstance(kind, str) or kind not in KINDS:
            return BadKind
        if not is_plain(full) or not 1 <= full <= 60:
            return BadCharge
        if not self.may_stand(kind, cell):
            return BadCell
        if not is_plain(charge) or not 0 <= charge <= full:
            return BadCharge
        later = [plain_place(way, self.now + tick) for way in self.ways().values() for tick in range(len(way[1]) + 1)]
        if cell in later or len(self.rows) == 8:
            return Taken
        self.rows.append({"kind": kind, "full": full, "charge": charge, "way": (self.now, (cell,))})
        return len(self.rows) - 1

    def sees(self, number, stops, least):
        """The parts of a Found or a Shut, or the refusal's class."""
        if not is_plain(number) or not 0 <= number < len(self.rows):
            return NoCarrier
        row = self.rows[number]
        if not isinstance(stops, list) or not 1 <= len(stops) <= 4:
            return BadStops
        if not all(self.may_stand(row["kind"], stop) for stop in stops):
            return BadStops
        if not self.is_idle(number):
            return Busy
        least = plain_need(self.floor, row["kind"], stops[-1]) if least is None else least
        if least is None:
            return NoReserve
        carrier = carrier_of(row["kind"], row["full"])
        given = (number, self.now, self.place(number), row["charge"], stops, least)
        return plain_sought(self.floor, carrier, self.ways(), *given)

    def send(self, number, stops, least):
        told = self.sees(number, stops, least)
        if not isinstance(told, tuple):
            return told
        if told[0] is Shut:
            return Closed
        self.rows[number]["way"] = told[1]
        return told[1][0] + len(told[1][1]) - 1


def is_plain(thing):
    return type(thing) is int


def answer_of(call, *given):
    """What a call tells, or the class of its refusal."""
    try:
        return call(*given)
    except ValueError as refusal:
        return type(refusal)


class TestMade(unittest.TestCase):
    def test_at_first(self):
        floor = Floor(["+.", "#."])
        fleet = Fleet(floor)
        self.assertIs(fleet.floor, floor)
        self.assertEqual((fleet.time(), fleet.numbers(), fleet.book().numbers()), (0, [], []))
        self.assertIs(Fleet(floor=floor).floor, floor)

    def test_two_fleets_of_one_floor_are_apart(self):
        floor = Floor(LONG)
        one, other = Fleet(floor), Fleet(floor)
        one.add("cart", 20, 2, 9)
        one.pass_time(3)
        self.assertEqual(picture(other), (0, [], {}))


class TestAdd(Telling):
    def test_each_kind(self):
        fleet = Fleet(Floor(["+.|~."]))
        self.assertEqual(fleet.add("cart", 20, 1, 9), 0)
        self.assertEqual(fleet.add("crawler", 1, 3, 0), 1)
        self.assertEqual(fleet.add(kind="runner", full=60, cell=2, charge=60), 2)
        self.assertEqual(fleet.numbers(), [0, 1, 2])
        self.assertEqual([type(fleet.carrier(number)) for number in range(3)], [Cart, Crawler, Runner])
        self.assertEqual([fleet.carrier(number).kind() for number in range(3)], ["cart", "crawler", "runner"])
        self.assertEqual([fleet.carrier(number).full for number in range(3)], [20, 1, 60])
        self.assertEqual([fleet.place(number) for number in range(3)], [1, 3, 2])
        self.assertEqual([fleet.charge(number) for number in range(3)], [9, 0, 60])
        self.assertEqual([fleet.way(number) for number in range(3)], [(0, (1,)), (0, (3,)), (0, (2,))])
        self.assertEqual([fleet.is_idle(number) for number in range(3)], [True, True, True])
        self.assertEqual(held(fleet.book()), {0: (0, (1,)), 1: (0, (3,)), 2: (0, (2,))})
        self.assertTrue(isinstance(fleet.carrier(0), Carrier))

    def test_later(self):
        fleet = fleet_of(LONG, ("cart", 20, 0, 9))
        fleet.pass_time(7)
        self.assertEqual(fleet.add("cart", 5, 3, 5), 1)
        self.assertEqual((fleet.way(1), fleet.place(1), fleet.charge(1), fleet.is_idle(1)), ((7, (3,)), 3, 5, True))
        self.assertEqual(held(fleet.book()), {0: (0, (0,)), 1: (7, (3,))})

    def unlike(self, error, fleet, *given):
        before = picture(fleet)
        self.refused(error, fleet.add, *given)
        self.assertEqual(picture(fleet), before)

    def test_bad_kind(self):
        fleet = fleet_of(LONG, ("cart", 20, 0, 9))
        for kind in NO_KINDS:
            self.unlike(BadKind, fleet, kind, 20, 1, 9)

    def test_bad_full_charge(self):
        fleet = fleet_of(LONG, ("cart", 20, 0, 9))
        for full in NO_NUMBERS + (0, 61, -1, GREAT, -GREAT):
            self.unlike(BadCharge, fleet, "cart", full, 1, 0)

    def test_bad_cell(self):
        fleet = fleet_of(["+.#~|"], ("cart", 20, 0, 9))
        for cell in NO_CELLS + (2, 5, 10):
            self.unlike(BadCell, fleet, "crawler", 20, cell, 9)
        for kind in ("cart", "runner"):
            self.unlike(BadCell, fleet, kind, 20, 3, 9)
        self.assertEqual(fleet.add("crawler", 20, 3, 9), 1)

    def test_bad_charge(self):
        fleet = fleet_of(LONG, ("cart", 20, 0, 9))
        for charge in NO_NUMBERS + (13, -1, GREAT, -GREAT):
            self.unlike(BadCharge, fleet, "cart", 12, 1, charge)
        self.assertEqual(fleet.add("cart", 12, 1, 0), 1)
        self.assertEqual(fleet.add("cart", 12, 2, 12), 2)

    def test_taken_by_one_that_stands_there(self):
        fleet = fleet_of(LONG, ("cart", 20, 2, 9))
        self.unlike(Taken, fleet, "cart", 20, 2, 9)
        fleet.pass_time(30)
        self.unlike(Taken, fleet, "runner", 20, 2, 9)

    def test_taken_by_one_that_is_there_now_or_comes_there_later(self):
        fleet = fleet_of(["......"], ("cart", 20, 1, 9))
        self.assertEqual(fleet.send(0, [4], 0), 3)
        for time, taken in enumerate(([1, 2, 3, 4], [2, 3, 4], [3, 4], [4], [4])):
            self.assertEqual(fleet.time(), time)
            for cell in taken:
                self.unlike(Taken, fleet, "cart", 20, cell, 9)
            fleet.pass_time()
        self.assertEqual([fleet.add("cart", 20, cell, 9) for cell in (3, 5, 1)], [1, 2, 3])

    def test_one_that_comes_by_twice(self):
        fleet = fleet_of(LONG, ("cart", 20, 1, 9))
        fleet.send(0, [2, 1], 0)
        fleet.pass_time()
        self.unlike(Taken, fleet, "cart", 20, 1, 9)
        fleet.pass_time()
        self.assertEqual(fleet.add("cart", 20, 2, 9), 1)

    def test_beside_one_that_goes_by(self):
        fleet = fleet_of(["...", "..."], ("cart", 20, 0, 9))
        fleet.send(0, [2], 0)
        self.assertEqual([fleet.add("cart", 20, cell, 9) for cell in (3, 4, 5)], [1, 2, 3])

    def test_taken_by_eight_carriers(self):
        fleet = fleet_of([".........."], *[("cart", 20, cell, 9) for cell in range(7)])
        self.assertEqual(fleet.add("runner", 20, 7, 9), 7)
        self.unlike(Taken, fleet, "cart", 20, 8, 9)
        self.unlike(Taken, fleet, "cart", 20, 3, 9)
        self.assertEqual(fleet.numbers(), list(range(8)))

    def test_the_first_refusal_of_several(self):
        fleet = fleet_of(["+.#"], ("cart", 20, 1, 9))
        full = fleet_of([".........#"], *[("cart", 20, cell, 9) for cell in range(8)])
        for some, wall, taken in ((fleet, 2, 1), (full, 9, 8)):
            self.unlike(BadKind, some, "van", 0, wall, 61)
            self.unlike(BadKind, some, "van", 20, wall, 5)
            self.unlike(BadKind, some, "van", 20, taken, 5)
            self.unlike(BadCharge, some, "cart", 0, wall, 0)
            self.unlike(BadCharge, some, "cart", 61, taken, 61)
            self.unlike(BadCell, some, "cart", 20, wall, 21)
            self.unlike(BadCell, some, "cart", 20, None, None)
            self.unlike(BadCharge, some, "cart", 20, taken, 21)
            self.unlike(Taken, some, "cart", 20, taken, 20)


class TestNumbers(Telling):
    def calls(self, fleet):
        return (
            fleet.carrier, fleet.place, fleet.charge, fleet.way, fleet.is_idle, lambda number: fleet.sees(number, [1]),
            lambda number: fleet.send(number, [1]), lambda number: fleet.send(number, None, 3),
            lambda number: fleet.sees(number, [], 0))

    def test_no_carrier(self):
        fleet = fleet_of(LONG, ("cart", 20, 0, 9), ("cart", 20, 2, 9))
        before = picture(fleet)
        for call in self.calls(fleet):
            for number in NO_NUMBERS + (2, 3, 8, -1, -2, GREAT, -GREAT, Cart(20)):
                self.refused(NoCarrier, call, number)
        self.assertEqual(picture(fleet), before)

    def test_no_carrier_of_an_empty_fleet(self):
        for call in self.calls(Fleet(Floor(LONG))):
            for number in (0, -1, None, True, False):
                self.refused(NoCarrier, call, number)

    def test_by_name(self):
        fleet = fleet_of(LONG, ("cart", 20, 0, 9))
        self.assertEqual((fleet.place(number=0), fleet.charge(number=0), fleet.way(number=0)), (0, 9, (0, (0,))))
        self.assertEqual((fleet.carrier(number=0).full, fleet.is_idle(number=0)), (20, True))


class TestSees(Telling):
    def test_one_to_four_stops(self):
        fleet = fleet_of(LONG, ("cart", 20, 2, 20))
        self.found(fleet.sees(0, [4]), (0, (2, 3, 4)), 18)
        self.found(fleet.sees(0, [4, 1]), (0, (2, 3, 4, 3, 2, 1)), 15)
        self.found(fleet.sees(0, [3, 3, 1]), (0, (2, 3, 2, 1)), 17)
        self.found(fleet.sees(0, [1, 3, 1, 2]), (0, (2, 1, 2, 3, 2, 1, 2)), 14)
        self.found(fleet.sees(0, [2]), (0, (2,)), 20)
        self.found(fleet.sees(0, [2, 2, 2, 2]), (0, (2,)), 20)

    def test_the_need_at_the_last_stop_is_the_least_charge(self):
        fleet = fleet_of(LONG, ("cart", 20, 2, 2))
        charging = (0, (2, 1, 0, 0, 0, 0, 0, 1, 2, 3, 4))
        self.found(fleet.sees(0, [4]), charging, 4)
        self.found(fleet.sees(0, [4], None), charging, 4)
        self.found(fleet.sees(0, [4], least=None), charging, 4)
        self.found(fleet.sees(0, [4], 0), (0, (2, 3, 4)), 0)
        self.found(fleet.sees(0, [4], least=1), (0, (2, 1, 0, 0, 0, 0, 1, 2, 3, 4)), 2)
        self.found(fleet.sees(0, [4], 16), (0, (2, 1) + (0,) * 11 + (1, 2, 3, 4)), 16)
        self.found(fleet.sees(number=0, stops=[0], least=20), (0, (2, 1) + (0,) * 11), 20)

    def test_the_need_at_a_charger_is_nought(self):
        fleet = fleet_of(LONG, ("cart", 20, 3, 3))
        self.found(fleet.sees(0, [0]), (0, (3, 2, 1, 0)), 0)

    def test_the_need_is_that_of_the_kind(self):
        lines = ["+~~.."]
        crawler = fleet_of(lines, ("crawler", 20, 3, 8))
        self.found(crawler.sees(0, [4]), (0, (3, 2, 1, 0) + (0,) * 15 + (1, 2, 3, 4)), 8)
        self.found(crawler.sees(0, [4], 7), (0, (3, 4)), 7)

    def test_a_least_that_is_more_than_full(self):
        fleet = fleet_of(LONG, ("cart", 3, 1, 3))
        told = fleet.sees(0, [0], 4)
        self.assertEqual(type(told), Shut)
        self.assertEqual(parts(told), plain_sought(fleet.floor, Cart(3), {0: (0, (1,))}, 0, 0, 1, 3, [0], 4))
        self.assertEqual(type(fleet.sees(0, [0], GREAT)), Shut)

    def test_from_now_and_from_where_it_is(self):
        fleet = fleet_of(LONG, ("cart", 20, 0, 5))
        fleet.pass_time(3)
        self.found(fleet.sees(0, [2]), (3, (0, 1, 2)), 9)
        self.assertEqual(fleet.send(0, [2]), 5)
        fleet.pass_time(2)
        self.found(fleet.sees(0, [1]), (5, (2, 1)), 8)

    def test_by_the_ways_of_the_others(self):
        fleet = fleet_of(["+....", "##.##"], ("cart", 20, 3, 9), ("cart", 20, 7, 9))
        fleet.send(0, [1])
        self.found(fleet.sees(1, [4], 0), (0, (7, 7, 2, 3, 4)), 6)
        self.shut(fleet.sees(1, [4, 0], 0), 7, {
            (0, 2): 8, (0, 3): 7, (1, 4): 6, (1, 3): 5, (1, 2): 4, (0, 7): 9, (1, 7): 3})

    def test_told_of_a_shut(self):
        fleet = fleet_of(["..#+"], ("cart", 20, 0, 4), ("cart", 20, 1, 4))
        self.shut(fleet.sees(0, [1], 0), 0, {(0, 0): 4})
        fleet.pass_time(6)
        self.shut(fleet.sees(0, [1], 0), 6, {(0, 0): 4})

    def test_sees_changes_nothing(self):
        fleet = fleet_of(LONG, ("cart", 20, 2, 20), ("cart", 20, 4, 20))
        before = picture(fleet)
        for stops in ([1], [3, 0], [4], [1, 2, 3, 2]):
            fleet.sees(0, stops)
            fleet.sees(0, stops, 30)
        self.assertEqual(picture(fleet), before)

    def test_told_things_are_apart(self):
        fleet = fleet_of(["..#+"], ("cart", 20, 0, 4), ("cart", 20, 1, 4))
        told = fleet.sees(0, [1], 0)
        other = fleet.sees(0, [1], 0)
        told.layer.clear()
        told.layer[(7, 7)] = 7
        self.shut(other, 0, {(0, 0): 4})
        self.shut(fleet.sees(0, [1], 0), 0, {(0, 0): 4})


class TestRefusedStops(Telling):
    def both(self, error, fleet, *given):
        before = picture(fleet)
        self.refused(error, fleet.sees, *given)
        refusal = self.refused(error, fleet.send, *given)
        self.assertEqual(picture(fleet), before)
        return refusal

    def test_bad_stops(self):
        fleet = fleet_of(["+.#~."], ("cart", 20, 1, 9))
        for stops in NO_STOPS + ([], [1] * 5, [1] * 6, [2], [5], [-1], [GREAT], [3], [1, 2], [2, 1], [1, 1, 1, 3]):
            self.both(BadStops, fleet, 0, stops)
            self.both(BadStops, fleet, 0, stops, 0)
        for thing in NO_NUMBERS:
            for place in range(4):
                stops = [1, 1, 1, 1]
                stops[place] = thing
                self.both(BadStops, fleet, 0, stops)

    def test_a_cell_on_which_that_kind_may_not_stand(self):
        fleet = fleet_of(["+.~"], ("cart", 20, 1, 9), ("crawler", 20, 0, 9))
        self.both(BadStops, fleet, 0, [2])
        self.both(BadStops, fleet, 0, [2, 1])
        runner = fleet_of(["+.~"], ("runner", 20, 1, 9))
        self.both(BadStops, runner, 0, [2])
        crawler = fleet_of(["+.~"], ("crawler", 20, 1, 9))
        self.assertEqual(crawler.send(0, [2]), 1)

    def test_busy(self):
        fleet = fleet_of(LONG, ("cart", 20, 2, 9))
        fleet.send(0, [4])
        for tick in range(2):
            self.both(Busy, fleet, 0, [3])
            self.both(Busy, fleet, 0, [3], 0)
            self.both(Busy, fleet, 0, [4, 3], 50)
            fleet.pass_time()
        self.assertEqual(fleet.send(0, [3]), 3)

    def test_no_reserve(self):
        fleet = fleet_of(["+#...", "+|#~."], ("cart", 20, 2, 9), ("runner", 20, 4, 9))
        self.both(NoReserve, fleet, 0, [3])
        self.both(NoReserve, fleet, 0, [2], None)
        self.both(NoReserve, fleet, 0, [0, 4])
        self.both(NoReserve, fleet, 1, [9])
        self.assertEqual(fleet.send(0, [3], 0), 1)

    def test_a_reserve_at_the_last_stop_alone(self):
        fleet = fleet_of(["+#..."], ("cart", 20, 2, 9))
        shut = self.refused(Closed, fleet.send, 0, [3, 0]).shut
        self.assertEqual(type(shut), Shut)

    def test_a_need_of_a_runner(self):
        # Upright it goes beside a lane alone.
        fleet = fleet_of(["..", ".|", "+."], ("runner", 20, 1, 9), ("cart", 20, 4, 9))
        self.found(fleet.sees(0, [0], 6), (0, (1, 0)), 8)
        self.found(fleet.sees(0, [5]), (0, (1, 3, 5)), 5)
        without = fleet_of(["..", "..", "+."], ("runner", 20, 1, 9), ("cart", 20, 4, 9))
        self.both(NoReserve, without, 0, [0])

    def test_closed(self):
        fleet = fleet_of(["+...."], ("cart", 20, 4, 3), ("cart", 20, 0, 9))
        before = picture(fleet)
        refusal = self.refused(Closed, fleet.send, 0, [2])
        self.assertEqual(parts(refusal.shut), parts(fleet.sees(0, [2])))
        self.shut(refusal.shut, 3, {(0, 4): 3, (0, 3): 2, (1, 2): 1, (1, 1): 0, (1, 3): 0})
        self.assertEqual(picture(fleet), before)
        self.assertEqual(fleet.send(0, [2], 0), 2)

    def test_the_shut_of_a_refusal_is_the_askers_own(self):
        fleet = fleet_of(["+...."], ("cart", 20, 4, 0), ("cart", 20, 0, 9))
        one = self.refused(Closed, fleet.send, 0, [2]).shut
        other = self.refused(Closed, fleet.send, 0, [2]).shut
        one.layer.clear()
        self.shut(other, 0, {(0, 4): 0})
        self.shut(fleet.sees(0, [2]), 0, {(0, 4): 0})

    def test_the_first_refusal_of_several(self):
        fleet = fleet_of(["..#+.", "####."], ("cart", 20, 0, 9), ("cart", 20, 9, 0), ("cart", 20, 3, 9))
        fleet.send(0, [1], 0)
        self.both(NoCarrier, fleet, 3, [2])
        self.both(NoCarrier, fleet, True, [])
        self.both(BadStops, fleet, 0, [2])
        self.both(BadStops, fleet, 0, (1,))
        self.both(Busy, fleet, 0, [0])
        self.both(Busy, fleet, 0, [3])
        fleet.pass_time()
        self.both(NoReserve, fleet, 0, [0])
        self.both(NoReserve, fleet, 0, [3, 1])
        self.refused(Closed, fleet.send, 0, [3])
        self.refused(Closed, fleet.send, 0, [3, 1], 0)


class TestSend(Telling):
    def test_the_way_is_booked_from_now_on(self):
        fleet = fleet_of(LONG, ("cart", 20, 2, 9), ("cart", 20, 0, 0))
        fleet.pass_time(4)
        self.assertEqual(fleet.send(0, [4, 3]), 7)
        self.assertEqual(fleet.way(0), (4, (2, 3, 4, 3)))
        self.assertEqual(held(fleet.book()), {0: (4, (2, 3, 4, 3)), 1: (0, (0,))})
        self.assertEqual([fleet.time(), fleet.place(0), fleet.charge(0), fleet.is_idle(0)], [4, 2, 9, False])

    def test_one_to_four_stops_and_least(self):
        for stops, least, last in (
                ([4], None, 2), ([4], 0, 2), ([4, 1], None, 5), ([3, 3, 1], 17, 3), ([1, 3, 1, 2], None, 6),
                ([4], 18, 2), ([4], 14, 2), ([2], None, 0)):
            fleet = fleet_of(LONG, ("cart", 20, 2, 20))
            found = fleet.sees(0, stops, least)
            self.assertEqual(fleet.send(0, stops, least), last)
            self.assertEqual(fleet.way(0), found.path)
        fleet = fleet_of(LONG, ("cart", 20, 2, 2))
        self.assertEqual(fleet.send(number=0, stops=[4], least=None), 10)
        fleet = fleet_of(LONG, ("cart", 20, 2, 2))
        self.assertEqual(fleet.send(0, [4]), 10)
        fleet = fleet_of(LONG, ("cart", 20, 2, 2))
        self.assertEqual(fleet.send(0, [4], least=0), 2)

    def test_where_it_stands(self):
        fleet = fleet_of(LONG, ("cart", 20, 2, 9))
        fleet.pass_time(5)
        self.assertEqual(fleet.send(0, [2]), 5)
        self.assertEqual((fleet.way(0), fleet.is_idle(0)), ((5, (2,)), True))
        self.assertEqual(fleet.send(0, [1]), 6)

    def test_idle_from_the_last_time_on(self):
        fleet = fleet_of(LONG, ("cart", 20, 2, 9))
        fleet.send(0, [4])
        told = []
        for tick in range(5):
            told.append((fleet.is_idle(0), fleet.place(0)))
            fleet.pass_time()
        self.assertEqual(told, [(False, 2), (False, 3), (True, 4), (True, 4), (True, 4)])
        self.assertEqual(fleet.way(0), (0, (2, 3, 4)))

    def test_round_another_one(self):
        fleet = fleet_of(["...", "..."], ("cart", 20, 0, 9), ("cart", 20, 1, 9))
        self.assertEqual(fleet.send(0, [2], 0), 4)
        self.assertEqual(fleet.way(0), (0, (0, 3, 4, 5, 2)))

    def test_behind_one_that_goes_on(self):
        fleet = fleet_of(["......"], ("cart", 20, 0, 9), ("cart", 20, 1, 9))
        self.assertEqual(fleet.send(1, [5], 0), 4)
        self.assertEqual(fleet.send(0, [4], 0), 4)
        fleet.pass_time(4)
        self.assertEqual([fleet.place(0), fleet.place(1)], [4, 5])


class TestTime(Telling):
    def test_pass_time(self):
        fleet = fleet_of(LONG, ("cart", 20, 2, 9))
        for ticks, time in ((0, 0), (1, 1), (0, 1), (5, 6), (1000, 1006)):
            self.assertIsNone(fleet.pass_time(ticks))
            self.assertEqual(fleet.time(), time)
        self.assertIsNone(fleet.pass_time())
        self.assertEqual(fleet.time(), 1007)
        self.assertIsNone(fleet.pass_time(ticks=2))
        self.assertEqual(fleet.time(), 1009)
        # What lies beyond the bound is refused nowhere.
        fleet.pass_time(1001)
        self.assertEqual(fleet.time(), 2010)

    def test_without_carriers(self):
        fleet = Fleet(Floor(LONG))
        fleet.pass_time(12)
        self.assertEqual((fleet.time(), fleet.numbers()), (12, []))

    def test_nought_ticks_change_nothing(self):
        fleet = fleet_of(LONG, ("cart", 20, 0, 9), ("cart", 20, 2, 9))
        fleet.send(1, [4])
        before = picture(fleet)
        fleet.pass_time(0)
        self.assertEqual(picture(fleet), before)

    def charges(self, fleet, ticks):
        told = []
        for tick in range(ticks):
            told.append([fleet.charge(number) for number in fleet.numbers()])
            fleet.pass_time()
        return told

    def test_the_charge_of_one_that_stands_idle_on_a_charger(self):
        fleet = fleet_of(["+#+#+"], ("cart", 7, 0, 2), ("crawler", 4, 2, 2), ("runner", 9, 4, 1))
        self.assertEqual(self.charges(fleet, 5), [[2, 2, 1], [4, 3, 4], [6, 4, 7], [7, 4, 9], [7, 4, 9]])

    def test_the_charge_of_one_that_stands_idle_elsewhere(self):
        fleet = fleet_of([".|~"], ("cart", 7, 0, 2), ("runner", 9, 1, 0), ("crawler", 4, 2, 4))
        self.assertEqual(self.charges(fleet, 3), [[2, 0, 4]] * 3)
        fleet.pass_time(1000)
        self.assertEqual([fleet.charge(number) for number in range(3)], [2, 0, 4])

    def test_the_charge_on_the_way(self):
        fleet = fleet_of(["~.+..", "####|", "....."], ("crawler", 20, 1, 9))
        fleet.send(0, [0, 3], 0)
        self.assertEqual(self.charges(fleet, 5), [[9], [6], [5], [4], [3]])
        fleet = fleet_of(["~.+..", "####|", "....."], ("runner", 20, 2, 9))
        fleet.send(0, [13], 0)
        self.assertEqual(fleet.way(0), (0, (2, 3, 4, 9, 14, 13)))
        self.assertEqual(self.charges(fleet, 7), [[9], [8], [7], [5], [3], [2], [2]])

    def test_the_charge_on_a_way_that_waits_on_a_charger(self):
        fleet = fleet_of(LONG, ("cart", 20, 2, 2))
        fleet.send(0, [4])
        self.assertEqual(fleet.way(0), (0, (2, 1, 0, 0, 0, 0, 0, 1, 2, 3, 4)))
        self.assertEqual([row[0] for row in self.charges(fleet, 13)], [2, 1, 0, 2, 4, 6, 8, 7, 6, 5, 4, 4, 4])

    def test_the_charge_at_a_charger_behind_the_way(self):
        fleet = fleet_of(LONG, ("cart", 8, 2, 3))
        fleet.send(0, [0])
        self.assertEqual([row[0] for row in self.charges(fleet, 8)], [3, 2, 1, 3, 5, 7, 8, 8])

    def test_a_way_waits_for_others_on_no_charger(self):
        fleet = fleet_of(["+....", "##.##"], ("cart", 20, 3, 9), ("cart", 20, 7, 9))
        fleet.send(0, [1])
        fleet.send(1, [4], 0)
        self.assertEqual(fleet.way(1), (0, (7, 7, 2, 3, 4)))
        self.assertEqual(self.charges(fleet, 6), [[9, 9], [8, 9], [7, 8], [7, 7], [7, 6], [7, 6]])

    def test_found_tells_the_charge_behind_the_way(self):
        fleet = fleet_of(LONG, ("cart", 20, 2, 2))
        left = fleet.sees(0, [4, 1]).left
        fleet.pass_time(fleet.send(0, [4, 1]))
        self.assertEqual((fleet.place(0), fleet.charge(0), fleet.is_idle(0)), (1, left, True))

    def test_at_once_or_tick_by_tick(self):
        fleets = [fleet_of(LONG, ("cart", 20, 2, 2), ("runner", 9, 3, 3)) for again in range(2)]
        for fleet in fleets:
            fleet.send(0, [1, 0, 1])
        fleets[0].pass_time(9)
        for tick in range(9):
            fleets[1].pass_time()
        self.assertEqual(picture(fleets[0]), picture(fleets[1]))


class TestApart(Telling):
    def test_told_lists_are_the_askers_own(self):
        fleet = fleet_of(LONG, ("cart", 20, 2, 9), ("cart", 20, 0, 9))
        before = picture(fleet)
        told = fleet.numbers()
        told.append(7)
        told[0] = 5
        self.assertEqual(picture(fleet), before)
        self.assertEqual(fleet.numbers(), [0, 1])

    def test_a_told_list_stays_as_it_is(self):
        fleet = fleet_of(LONG, ("cart", 20, 2, 9))
        told, book = fleet.numbers(), fleet.book()
        fleet.add("cart", 20, 0, 9)
        fleet.send(0, [3])
        fleet.pass_time(3)
        self.assertEqual((told, held(book)), ([0], {0: (0, (2,))}))

    def test_a_told_book_is_a_copy(self):
        fleet = fleet_of(LONG, ("cart", 20, 2, 9), ("cart", 20, 0, 9))
        before = picture(fleet)
        book = fleet.book()
        self.assertIs(type(book), Book)
        book.drop(1)
        book.put(0, (0, (1, 0, 0)))
        book.put(6, (3, (4,)))
        self.assertEqual(picture(fleet), before)
        self.found(fleet.sees(0, [4]), (0, (2, 3, 4)), 7)

    def test_stops_are_not_changed_and_may_be_changed_later(self):
        fleet = fleet_of(LONG, ("cart", 20, 2, 9))
        stops = [3, 3, 4]
        found = fleet.sees(0, stops)
        self.assertEqual(stops, [3, 3, 4])
        fleet.send(0, stops)
        self.assertEqual(stops, [3, 3, 4])
        stops.clear()
        stops.append(0)
        self.found(found, (0, (2, 3, 4)), 7)
        self.assertEqual(fleet.way(0), (0, (2, 3, 4)))

    def test_the_lines_of_the_floor_may_be_changed_later(self):
        lines = list(LONG)
        fleet = fleet_of(lines, ("cart", 20, 2, 9))
        lines[0] = "#####"
        lines.append("##")
        self.found(fleet.sees(0, [0]), (0, (2, 1, 0)), 7)
        self.assertEqual(fleet.add("cart", 20, 4, 9), 1)


class TestAgainstPlainFleets(unittest.TestCase):
    def calls(self, chance, floor, fleet, plain):
        """One call, its arguments some of the time wrong ones, as answers of both."""
        cells = floor.cells() + [floor.wide * floor.high, None, True]
        what = chance.choice(("add", "sees", "send", "send", "pass"))
        if what == "add":
            given = (
                chance.choice(KINDS + ("van",)), chance.choice((5, 20, 60, 61)), chance.choice(cells),
                chance.choice((0, 3, 5, 6)))
            return (answer_of(fleet.add, *given), plain.add(*given))
        if what == "pass":
            ticks = chance.choice((0, 1, 1, 2, 3, 9))
            return (fleet.pass_time(ticks), plain.pass_time(ticks))
        number = chance.choice(list(range(len(plain.rows) + 1)) + [False])
        stops = [chance.choice(cells[:-3] * 9 + cells) for stop in range(chance.choice((0, 1, 1, 2, 2, 3, 4, 5)))]
        least = chance.choice((None, None, 0, 2))
        if what == "send":
            return (answer_of(fleet.send, number, stops, least), plain.send(number, stops, least))
        told = answer_of(fleet.sees, number, stops, least)
        return (parts(told) if isinstance(told, (Found, Shut)) else told, plain.sees(number, stops, least))

    def test_rows_of_calls(self):
        chance = random.Random(16)
        seen = {}
        for lines, again in itertools.product(FLOORS, range(8)):
            floor = Floor(lines)
            fleet, plain = Fleet(floor), PlainFleet(floor)
            for call in range(40):
                told, meant = self.calls(chance, floor, fleet, plain)
                self.assertEqual(told, meant)
                self.assertEqual(picture(fleet), plain.picture())
                self.assertEqual(meetings(held(fleet.book())), [])
                word = told[0] if isinstance(told, tuple) else told if isinstance(told, type) else None
                seen[word] = seen.get(word, 0) + 1
        refusals = (BadKind, BadCharge, BadCell, Taken, NoCarrier, BadStops, Busy, NoReserve, Closed)
        for word in refusals + (Found, Shut):
            self.assertGreater(seen.get(word, 0), 0, word)


if __name__ == "__main__":
    unittest.main()
