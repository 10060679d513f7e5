import itertools
import random
import unittest

from floorways.errors import BadStops, Busy, Closed, FloorError, Jammed, NoCarrier, NoReserve
from floorways.floors import Floor
from floorways.fleets import Fleet
from floorways.meets import meetings
from floorways.seeks import Found, Shut
from floorways.turns import cleared
from plain import (
    FLOORS, GREAT, KINDS, NO_NUMBERS, Telling, fleet_of, held, parts, picture, plain_need, plain_place, plain_rested,
    plain_sought)

NICHE = ["+....", "##.##"]
NICHES = ["+......", "##.#.##"]


def plain_cleared(fleet, number, stops):
    """What [17] says, done plainly, of a call that isn't refused at once: the numbers and all ways, or a refusal."""
    ways = held(fleet.book())
    given = (fleet.time(), fleet.place(number), fleet.charge(number), stops)
    need = plain_need(fleet.floor, fleet.carrier(number).kind(), stops[-1])
    told = plain_sought(fleet.floor, fleet.carrier(number), ways, number, *given, need)
    if told[0] is Found:
        return ([], {**ways, number: told[1]})
    idle = [other for other in ways if other != number and fleet.is_idle(other)]
    some = {other: way for other, way in ways.items() if other not in idle}
    told = plain_sought(fleet.floor, fleet.carrier(number), some, number, *given, need)
    if told[0] is Shut:
        return (Closed, told)
    path = told[1]
    met = []
    for time in range(path[0], path[0] + len(path[1])):
        met += [other for other in idle if other not in met and fleet.place(other) == plain_place(path, time)]
    some = {other: way for other, way in ways.items() if other not in met}
    some[number] = path
    for other in met:
        row = (fleet.time(), fleet.place(other), fleet.charge(other))
        told = plain_rested(fleet.floor, fleet.carrier(other), some, other, *row)
        if told[0] is Shut:
            return (Jammed, other)
        some[other] = told[1]
    return (met, some)


class Clearing(Telling):
    def unlike(self, error, fleet, *given):
        before = picture(fleet)
        refusal = self.refused(error, cleared, fleet, *given)
        self.assertEqual(picture(fleet), before)
        return refusal

    def booked(self, fleet, ways):
        self.assertEqual(held(fleet.book()), ways)
        self.assertEqual({number: fleet.way(number) for number in fleet.numbers()}, ways)
        self.assertEqual(meetings(ways), [])


class TestCleared(Clearing):
    def test_a_way_that_send_has(self):
        fleet = fleet_of(NICHE, ("cart", 20, 0, 20), ("cart", 20, 4, 9))
        other = fleet_of(NICHE, ("cart", 20, 0, 20), ("cart", 20, 4, 9))
        other.send(0, [2, 3])
        self.assertEqual(cleared(fleet, 0, [2, 3]), [])
        self.assertEqual(picture(fleet), picture(other))
        self.booked(fleet, {0: (0, (0, 1, 2, 3)), 1: (0, (4,))})
        self.assertFalse(fleet.is_idle(0))

    def test_a_way_that_send_has_though_one_stands_in_the_way_of_a_shorter_one(self):
        fleet = fleet_of(["...", "..+"], ("cart", 20, 0, 9), ("cart", 20, 1, 9))
        self.assertEqual(cleared(fleet=fleet, number=0, stops=[2]), [])
        self.booked(fleet, {0: (0, (0, 3, 4, 5, 2)), 1: (0, (1,))})

    def test_where_it_stands(self):
        fleet = fleet_of(NICHE, ("cart", 20, 2, 20), ("cart", 20, 1, 9))
        fleet.pass_time(2)
        self.assertEqual(cleared(fleet, 0, [2]), [])
        self.booked(fleet, {0: (2, (2,)), 1: (0, (1,))})

    def test_one_turns_out(self):
        fleet = fleet_of(NICHE, ("cart", 20, 0, 20), ("cart", 20, 2, 9))
        self.assertEqual(cleared(fleet, 0, [4]), [1])
        self.booked(fleet, {0: (0, (0, 1, 2, 3, 4)), 1: (0, (2, 7))})
        self.assertEqual([fleet.time(), fleet.is_idle(0), fleet.is_idle(1)], [0, False, False])
        fleet.pass_time(4)
        self.assertEqual([(fleet.place(number), fleet.charge(number)) for number in (0, 1)], [(4, 16), (7, 8)])

    def test_from_now_on(self):
        fleet = fleet_of(NICHE, ("cart", 20, 1, 9), ("cart", 20, 3, 9))
        fleet.send(0, [0])
        fleet.pass_time(6)
        self.assertEqual(cleared(fleet, 0, [3, 2]), [1])
        self.booked(fleet, {0: (6, (0, 1, 2, 3, 2)), 1: (6, (3, 4))})

    def test_one_whose_cell_is_the_last_stop(self):
        fleet = fleet_of(NICHE, ("cart", 20, 0, 20), ("cart", 20, 2, 9))
        self.assertEqual(cleared(fleet, 0, [2]), [1])
        self.booked(fleet, {0: (0, (0, 1, 2)), 1: (0, (2, 3))})

    def test_one_that_is_not_met_stays(self):
        fleet = fleet_of(NICHES, ("cart", 20, 0, 20), ("cart", 20, 2, 9), ("cart", 20, 11, 9), ("cart", 20, 6, 9))
        self.assertEqual(cleared(fleet, 0, [5]), [1])
        self.booked(fleet, {0: (0, (0, 1, 2, 3, 4, 5)), 1: (0, (2, 9)), 2: (0, (11,)), 3: (0, (6,))})

    def test_several_in_the_order_of_when_they_are_met(self):
        fleet = fleet_of(NICHES, ("cart", 20, 0, 20), ("cart", 20, 4, 5), ("cart", 20, 2, 5))
        self.assertEqual(cleared(fleet, 0, [6]), [2, 1])
        self.booked(fleet, {0: (0, (0, 1, 2, 3, 4, 5, 6)), 1: (0, (4, 11)), 2: (0, (2, 9))})
        fleet = fleet_of(NICHES, ("cart", 20, 2, 5), ("cart", 20, 4, 5), ("cart", 20, 0, 20))
        self.assertEqual(cleared(fleet, 2, [6]), [0, 1])

    def test_one_that_is_met_twice_turns_out_once(self):
        fleet = fleet_of(NICHES, ("cart", 20, 0, 20), ("cart", 20, 4, 5), ("cart", 20, 2, 5))
        self.assertEqual(cleared(fleet, 0, [5, 0, 3]), [2, 1])

    def test_those_that_are_still_to_turn_out_are_not_in_the_book(self):
        # The first one goes by the cell of the second one, which goes away ahead of it, and not to where it goes.
        fleet = fleet_of(["+......", "####.#."], ("cart", 20, 0, 20), ("cart", 20, 2, 5), ("cart", 20, 3, 5))
        self.assertEqual(cleared(fleet, 0, [5]), [1, 2])
        self.booked(fleet, {0: (0, (0, 1, 2, 3, 4, 5)), 1: (0, (2, 3, 4, 11)), 2: (0, (3, 4, 5, 6))})

    def test_a_rest_by_kind_and_charge(self):
        lines = ["+....", "##~##", "##.##"]
        fleet = fleet_of(lines, ("cart", 20, 0, 20), ("crawler", 20, 2, 3))
        self.assertEqual(cleared(fleet, 0, [3]), [1])
        self.booked(fleet, {0: (0, (0, 1, 2, 3)), 1: (0, (2, 7))})
        fleet = fleet_of(lines, ("cart", 20, 0, 20), ("crawler", 20, 2, 2))
        self.assertEqual(cleared(fleet, 0, [3]), [1])
        self.booked(fleet, {0: (0, (0, 1, 2, 3)), 1: (0, (2, 3, 4))})

    def test_a_way_by_the_need(self):
        # It has enough for the way, but not for the way and its need behind it.
        fleet = fleet_of(NICHE, ("cart", 9, 1, 6), ("cart", 20, 2, 9))
        self.assertEqual(cleared(fleet, 0, [4]), [1])
        self.booked(fleet, {0: (0, (1, 0, 0, 0, 1, 2, 3, 4)), 1: (0, (2, 7))})

    def test_busy_ones_are_waited_for(self):
        fleet = fleet_of(NICHES, ("cart", 20, 0, 20), ("cart", 20, 6, 9), ("cart", 20, 2, 9))
        fleet.send(1, [3, 4, 11], 0)
        self.assertEqual(fleet.way(1), (0, (6, 5, 4, 3, 4, 11)))
        self.assertEqual(cleared(fleet, 0, [6]), [2])
        self.booked(fleet, {0: (0, (0, 0, 1, 2, 3, 4, 5, 6)), 1: (0, (6, 5, 4, 3, 4, 11)), 2: (0, (2, 9))})

    def test_busy_ones_never_turn_out(self):
        fleet = fleet_of(NICHE, ("cart", 20, 0, 20), ("cart", 20, 3, 9))
        fleet.send(1, [2])
        refusal = self.unlike(Closed, fleet, 0, [4])
        self.shut(refusal.shut, 1, {(0, 0): 20, (0, 1): 19})
        fleet.pass_time()
        self.assertEqual(cleared(fleet, 0, [4]), [1])

    def test_the_told_list_is_the_askers_own(self):
        fleet = fleet_of(NICHE, ("cart", 20, 0, 20), ("cart", 20, 2, 9))
        told = cleared(fleet, 0, [4])
        before = picture(fleet)
        told.append(7)
        self.assertEqual(picture(fleet), before)

    def test_stops_are_not_changed_and_may_be_changed_later(self):
        fleet = fleet_of(NICHE, ("cart", 20, 0, 20), ("cart", 20, 2, 9))
        stops = [4, 3]
        cleared(fleet, 0, stops)
        self.assertEqual(stops, [4, 3])
        stops.append(0)
        self.booked(fleet, {0: (0, (0, 1, 2, 3, 4, 3)), 1: (0, (2, 7))})

    def test_a_book_told_ahead_stays_as_it_is(self):
        fleet = fleet_of(NICHE, ("cart", 20, 0, 20), ("cart", 20, 2, 9))
        book = fleet.book()
        cleared(fleet, 0, [4])
        self.assertEqual(held(book), {0: (0, (0,)), 1: (0, (2,))})

    def test_sent_on_behind_it(self):
        fleet = fleet_of(NICHE, ("cart", 20, 0, 20), ("cart", 20, 2, 9))
        cleared(fleet, 0, [4])
        self.refused(Busy, fleet.send, 1, [2])
        fleet.pass_time()
        self.assertEqual(fleet.send(1, [2]), 3)
        self.assertEqual(meetings(held(fleet.book())), [])


class TestRefused(Clearing):
    def test_no_carrier(self):
        fleet = fleet_of(NICHE, ("cart", 20, 0, 20), ("cart", 20, 2, 9))
        for number in NO_NUMBERS + (2, -1, GREAT):
            self.unlike(NoCarrier, fleet, number, [4])
            self.unlike(NoCarrier, fleet, number, None)

    def test_bad_stops(self):
        fleet = fleet_of(["+..~.", "##.##"], ("cart", 20, 0, 20), ("cart", 20, 2, 9))
        for stops in (None, (1,), 1, "1", {1: 1}, {1}, [], [1] * 5, [5], [10], [-1], [True], [False], [None], [3], [1, 3]):
            self.unlike(BadStops, fleet, 0, stops)

    def test_busy(self):
        fleet = fleet_of(NICHE, ("cart", 20, 0, 20), ("cart", 20, 2, 9))
        fleet.send(0, [1])
        self.unlike(Busy, fleet, 0, [4])
        self.unlike(BadStops, fleet, 0, [5])

    def test_no_reserve(self):
        fleet = fleet_of(["+#...", "###.#"], ("cart", 20, 2, 20), ("cart", 20, 3, 9))
        self.unlike(NoReserve, fleet, 0, [4])
        self.unlike(NoReserve, fleet, 0, [2])
        fleet.send(0, [2], 0)
        fleet.send(1, [8], 0)
        self.unlike(Busy, fleet, 1, [4])

    def test_closed_by_a_wall(self):
        fleet = fleet_of(["+..#+"], ("cart", 20, 0, 20), ("cart", 20, 1, 9))
        self.shut(fleet.sees(0, [4]), 0, {(0, 0): 20})
        refusal = self.unlike(Closed, fleet, 0, [4])
        self.shut(refusal.shut, 2, {(0, 0): 20, (0, 1): 19, (0, 2): 18})

    def test_closed_by_too_small_a_charge(self):
        fleet = fleet_of([".....+"], ("cart", 20, 0, 3), ("cart", 20, 1, 9))
        refusal = self.unlike(Closed, fleet, 0, [2])
        self.shut(refusal.shut, 3, {(0, 0): 3, (0, 1): 2, (1, 2): 1, (1, 3): 0, (1, 1): 0})

    def test_the_shut_of_a_refusal_is_the_askers_own(self):
        fleet = fleet_of(["+..#+"], ("cart", 20, 0, 20), ("cart", 20, 1, 9))
        one, other = [self.unlike(Closed, fleet, 0, [4]).shut for again in range(2)]
        one.layer.clear()
        self.shut(other, 2, {(0, 0): 20, (0, 1): 19, (0, 2): 18})

    def test_jammed_by_no_charge(self):
        fleet = fleet_of(NICHE, ("cart", 20, 0, 20), ("cart", 20, 2, 0))
        self.assertEqual(self.unlike(Jammed, fleet, 0, [4]).other, 1)

    def test_jammed_by_no_cell(self):
        fleet = fleet_of(["+...."], ("cart", 20, 2, 9), ("cart", 20, 0, 20))
        self.assertEqual(self.unlike(Jammed, fleet, 1, [4]).other, 0)
        self.assertEqual(cleared(fleet, 1, [3]), [0])

    def test_jammed_by_one_that_stands_in_the_niche(self):
        fleet = fleet_of(NICHE, ("cart", 20, 0, 20), ("cart", 20, 2, 9), ("cart", 20, 7, 9))
        self.assertEqual(self.unlike(Jammed, fleet, 0, [4]).other, 1)

    def test_jammed_by_one_that_turned_out_ahead_of_it(self):
        fleet = fleet_of(["+.....", "####.#"], ("cart", 20, 0, 20), ("cart", 20, 2, 5), ("cart", 20, 3, 5))
        self.assertEqual(self.unlike(Jammed, fleet, 0, [5]).other, 2)

    def test_the_first_that_finds_no_rest(self):
        fleet = fleet_of(NICHES, ("cart", 20, 0, 20), ("cart", 20, 4, 0), ("cart", 20, 2, 0))
        self.assertEqual(self.unlike(Jammed, fleet, 0, [6]).other, 2)
        fleet = fleet_of(NICHES, ("cart", 20, 0, 20), ("cart", 20, 4, 0), ("cart", 20, 2, 5))
        self.assertEqual(self.unlike(Jammed, fleet, 0, [6]).other, 1)


class TestAgainstPlainTurns(Clearing):
    def some_fleet(self, chance, lines):
        fleet = Fleet(Floor(lines))
        for number in range(chance.randrange(2, 7)):
            try:
                fleet.add(chance.choice(KINDS), 20, chance.choice(fleet.floor.cells()), chance.choice((0, 4, 20)))
            except FloorError:
                pass
        for number in fleet.numbers()[::2]:
            try:
                fleet.send(number, [chance.choice(fleet.floor.cells())], 0)
            except FloorError:
                pass
        fleet.pass_time(chance.choice((0, 1, 2, 3)))
        return fleet

    def test_some_fleets(self):
        chance = random.Random(17)
        seen = {}
        floors = FLOORS + (NICHE, NICHES, ["+......", "####.#."], ["+.|.+", ".#.#.", "+.|.."], ["......", ".+...."])
        for lines, again in itertools.product(floors, range(40)):
            fleet = self.some_fleet(chance, lines)
            stops = [chance.choice(fleet.floor.cells()) for stop in range(chance.choice((1, 1, 2, 3)))]
            for number in fleet.numbers():
                told = self.compare(fleet, number, stops)
                seen[told] = seen.get(told, 0) + 1
        for told in (0, 1, 2, Closed, Jammed, BadStops, Busy, NoReserve):
            self.assertGreater(seen.get(told, 0), 0, told)

    def compare(self, fleet, number, stops):
        """How many turned out, or the class of the refusal."""
        before = picture(fleet)
        try:
            fleet.sees(number, stops)
        except FloorError as refusal:
            self.unlike(type(refusal), fleet, number, stops)
            return type(refusal)
        meant = plain_cleared(fleet, number, stops)
        if meant[0] is Closed:
            self.assertEqual(parts(self.unlike(Closed, fleet, number, stops).shut), meant[1])
            return Closed
        if meant[0] is Jammed:
            self.assertEqual(self.unlike(Jammed, fleet, number, stops).other, meant[1])
            return Jammed
        self.assertEqual(cleared(fleet, number, stops), meant[0])
        self.booked(fleet, meant[1])
        still = [row for row in before[1] if row[0] not in meant[0] + [number]]
        self.assertEqual([row for row in picture(fleet)[1] if row[0] not in meant[0] + [number]], still)
        return len(meant[0])


if __name__ == "__main__":
    unittest.main()
