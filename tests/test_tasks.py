import itertools
import random
import unittest

from floorways.errors import BadCell, BadStops, FloorError, NoReserve, NoTask
from floorways.fleets import Fleet
from floorways.floors import Floor
from floorways.meets import meetings
from floorways.seeks import Found
from floorways.tasks import Desk
from floorways.turns import cleared
from floorways.ways import last_time
from plain import FLOORS, GREAT, KINDS, NO_NUMBERS, Telling, fleet_of, held, picture

NICHE = ["+....", "##.##"]
NO_CELLS = NO_NUMBERS + (-1, 5, 10, GREAT, -GREAT, "2", Floor(["."]))


class PlainDesk:
    """What [18] and [19] say, done plainly: each carrier is asked anew each time."""

    def __init__(self, fleet):
        self.fleet = fleet
        self.rows = []

    def word(self, row, number):
        if not self.fleet.is_idle(number):
            return "busy"
        try:
            told = self.fleet.sees(number, list(row["cells"]))
        except BadStops:
            return "kind"
        except NoReserve:
            return "reserve"
        return "able" if type(told) is Found else "closed"

    def try_all(self):
        for row in self.rows:
            if row["by"] is None:
                able = [number for number in self.fleet.numbers() if self.word(row, number) == "able"]
                times = {number: last_time(self.fleet.sees(number, list(row["cells"])).path) for number in able}
                firsts = [number for number in able if times[number] == min(times.values())]
                if firsts:
                    row["by"] = min(firsts)
                    row["time"] = self.fleet.send(row["by"], list(row["cells"]))

    def tell(self, begin, goal):
        self.rows.append({"cells": (begin, goal), "by": None})
        self.try_all()
        return len(self.rows) - 1

    def go_on(self, ticks):
        for tick in range(ticks):
            self.fleet.pass_time(1)
            self.try_all()

    def state(self, task):
        row = self.rows[task]
        if row["by"] is None:
            return ("waiting",)
        return ("going" if self.fleet.time() < row["time"] else "done", row["by"], row["time"])

    def why(self, task):
        if self.rows[task]["by"] is not None:
            return []
        return [(number, self.word(self.rows[task], number)) for number in self.fleet.numbers()]

    def settle(self):
        while any(self.state(task)[0] == "going" for task in range(len(self.rows))):
            self.go_on(1)
        return [task for task in range(len(self.rows)) if self.state(task) == ("waiting",)]

    def told(self):
        return ([self.state(task) for task in range(len(self.rows))], [self.why(task) for task in range(len(self.rows))])


def told_of(desk):
    tasks = range(desk.tasks())
    return ([desk.state(task) for task in tasks], [desk.why(task) for task in tasks])


def desk_of(lines, *rows):
    return Desk(fleet_of(lines, *rows))


class TestTell(Telling):
    def test_at_first(self):
        fleet = fleet_of(NICHE)
        self.assertIs(Desk(fleet).fleet, fleet)
        self.assertIs(Desk(fleet=fleet).fleet, fleet)
        self.assertEqual((Desk(fleet).tasks(), Desk(fleet).settle()), (0, []))

    def test_numbers(self):
        desk = desk_of(NICHE)
        self.assertEqual([desk.tell(0, 4), desk.tell(begin=1, goal=1), desk.tell(4, 0)], [0, 1, 2])
        self.assertEqual((desk.tasks(), type(desk.tasks())), (3, int))

    def test_one_that_starts_at_once(self):
        desk = desk_of(NICHE, ("cart", 20, 0, 20))
        self.assertEqual(desk.tell(2, 4), 0)
        self.assertEqual(desk.state(0), ("going", 0, 4))
        self.assertEqual(desk.fleet.way(0), (0, (0, 1, 2, 3, 4)))
        self.assertEqual((desk.fleet.time(), desk.fleet.is_idle(0)), (0, False))

    def test_from_the_first_cell_to_the_second_one(self):
        desk = desk_of(NICHE, ("cart", 20, 0, 20))
        desk.tell(4, 2)
        self.assertEqual(desk.state(0), ("going", 0, 6))
        self.assertEqual(desk.fleet.way(0), (0, (0, 1, 2, 3, 4, 3, 2)))

    def test_one_that_starts_later(self):
        desk = desk_of(NICHE, ("cart", 20, 0, 20))
        desk.fleet.pass_time(5)
        desk.tell(2, 4)
        self.assertEqual((desk.state(0), desk.fleet.way(0)), (("going", 0, 9), (5, (0, 1, 2, 3, 4))))

    def test_one_that_is_done_at_once(self):
        desk = desk_of(NICHE, ("cart", 20, 2, 20))
        desk.fleet.pass_time(3)
        desk.tell(2, 2)
        self.assertEqual((desk.state(0), desk.fleet.is_idle(0)), (("done", 0, 3), True))
        desk.tell(2, 2)
        desk.tell(2, 3)
        self.assertEqual((desk.state(1), desk.state(2)), (("done", 0, 3), ("going", 0, 4)))

    def test_one_that_waits(self):
        desk = desk_of(NICHE)
        desk.tell(2, 4)
        self.assertEqual(desk.state(0), ("waiting",))
        desk = desk_of(NICHE, ("cart", 20, 0, 20))
        desk.tell(2, 4)
        desk.tell(2, 4)
        self.assertEqual((desk.state(0), desk.state(1)), (("going", 0, 4), ("waiting",)))

    def test_the_need_at_the_second_cell_is_kept(self):
        desk = desk_of(NICHE, ("cart", 20, 2, 2))
        desk.tell(3, 4)
        self.assertEqual(desk.fleet.way(0), (0, (2, 1, 0, 0, 0, 0, 0, 1, 2, 3, 4)))
        self.assertEqual(desk.state(0), ("going", 0, 10))

    def test_bad_cell(self):
        desk = desk_of(["+...#", "##.##"], ("cart", 20, 0, 20))
        desk.tell(3, 2)
        before = (picture(desk.fleet), told_of(desk))
        for thing in NO_CELLS + (4, 5, 6, 8):
            self.refused(BadCell, desk.tell, thing, 3)
            self.refused(BadCell, desk.tell, 3, thing)
            self.refused(BadCell, desk.tell, thing, thing)
        self.assertEqual((picture(desk.fleet), told_of(desk)), before)
        self.assertEqual(desk.tasks(), 1)

    def test_what_is_refused_tries_nothing(self):
        desk = desk_of(NICHE)
        desk.tell(2, 4)
        desk.fleet.add("cart", 20, 0, 20)
        self.refused(BadCell, desk.tell, 5, 4)
        self.assertEqual((desk.state(0), desk.tasks()), (("waiting",), 1))

    def test_any_cell_of_the_floor(self):
        desk = desk_of(["+.~|"], ("cart", 20, 1, 20))
        self.assertEqual([desk.tell(2, 0), desk.tell(0, 2), desk.tell(2, 2), desk.tell(0, 0)], [0, 1, 2, 3])
        self.assertEqual([desk.state(task)[0] for task in range(4)], ["waiting", "waiting", "waiting", "going"])


class TestWhoDoesIt(Telling):
    def test_the_one_that_would_be_there_first(self):
        desk = desk_of(NICHE, ("cart", 20, 0, 20), ("cart", 20, 3, 20))
        desk.tell(2, 1)
        self.assertEqual(desk.state(0), ("going", 1, 2))
        desk = desk_of(NICHE, ("cart", 20, 3, 20), ("cart", 20, 0, 20))
        desk.tell(2, 1)
        self.assertEqual(desk.state(0), ("going", 0, 2))

    def test_by_the_time_and_not_by_the_cells(self):
        # The nearer one would have to charge first.
        desk = desk_of(["+.......", "#####.##"], ("cart", 20, 2, 2), ("cart", 20, 7, 20))
        desk.tell(3, 4)
        self.assertEqual(desk.state(0), ("going", 1, 5))

    def test_of_several_the_least_number(self):
        for one, other in ((1, 3), (3, 1)):
            desk = desk_of(NICHE, ("cart", 20, one, 20), ("cart", 20, other, 20))
            desk.tell(2, 7)
            self.assertEqual(desk.state(0), ("going", 0, 2))

    def test_of_several_alike_behind_a_later_one(self):
        desk = desk_of(["+......", "######."], ("cart", 20, 0, 20), ("cart", 20, 2, 20), ("cart", 20, 4, 20))
        desk.tell(3, 3)
        self.assertEqual(desk.state(0), ("going", 1, 1))

    def test_busy_ones_do_nothing(self):
        desk = desk_of(NICHE, ("cart", 20, 0, 20), ("cart", 20, 3, 20))
        desk.fleet.send(1, [4])
        desk.tell(2, 1)
        self.assertEqual(desk.state(0), ("going", 0, 3))

    def test_one_that_is_able_by_kind(self):
        desk = desk_of(["+.~.."], ("cart", 20, 1, 20), ("crawler", 20, 4, 20))
        desk.tell(2, 3)
        self.assertEqual(desk.state(0), ("going", 1, 3))

    def test_all_are_seen_without_being_sent(self):
        desk = desk_of(NICHE, ("cart", 20, 0, 20), ("cart", 20, 3, 20))
        desk.tell(2, 1)
        self.assertEqual(held(desk.fleet.book()), {0: (0, (0,)), 1: (0, (3, 2, 1))})


class TestTrying(Telling):
    def test_in_order(self):
        desk = desk_of(NICHE, ("cart", 20, 0, 20))
        for cell in (1, 3, 2):
            desk.tell(cell, cell)
        self.assertEqual([desk.state(task) for task in range(3)], [("going", 0, 1), ("waiting",), ("waiting",)])
        desk.go_on()
        self.assertEqual([desk.state(task) for task in range(3)], [("done", 0, 1), ("going", 0, 3), ("waiting",)])
        desk.go_on(2)
        self.assertEqual([desk.state(task) for task in range(3)], [("done", 0, 1), ("done", 0, 3), ("going", 0, 4)])

    def test_the_first_that_can_be_done(self):
        desk = desk_of(["+.#.."], ("cart", 20, 0, 20))
        desk.tell(1, 3)
        desk.tell(1, 1)
        self.assertEqual([desk.state(0), desk.state(1)], [("waiting",), ("going", 0, 1)])

    def test_waiting_ones_are_tried_when_another_one_is_told(self):
        desk = desk_of(NICHE)
        desk.tell(2, 4)
        desk.fleet.add("cart", 20, 0, 20)
        self.assertEqual(desk.state(0), ("waiting",))
        desk.tell(1, 1)
        self.assertEqual([desk.state(0), desk.state(1)], [("going", 0, 4), ("waiting",)])

    def test_waiting_ones_are_tried_at_each_tick(self):
        desk = desk_of(NICHE)
        desk.tell(2, 4)
        desk.fleet.add("cart", 20, 0, 20)
        desk.go_on(0)
        self.assertEqual(desk.state(0), ("waiting",))
        desk.go_on()
        self.assertEqual(desk.state(0), ("going", 0, 5))

    def test_the_fleet_alone_tries_nothing(self):
        desk = desk_of(NICHE)
        desk.tell(2, 4)
        desk.fleet.add("cart", 20, 0, 20)
        desk.fleet.pass_time(6)
        self.assertEqual(desk.state(0), ("waiting",))

    def test_tried_behind_the_tick(self):
        desk = desk_of(NICHE, ("cart", 20, 0, 20))
        desk.tell(1, 1)
        desk.tell(2, 2)
        desk.go_on(1)
        self.assertEqual((desk.state(1), desk.fleet.way(0)), (("going", 0, 2), (1, (1, 2))))

    def test_one_that_is_done_at_once_leaves_its_carrier_to_the_next_one(self):
        desk = desk_of(NICHE)
        for cell in (2, 2, 3):
            desk.tell(cell, cell)
        desk.fleet.add("cart", 20, 2, 20)
        desk.go_on()
        self.assertEqual([desk.state(task) for task in range(3)], [("done", 0, 1), ("done", 0, 1), ("going", 0, 2)])

    def test_one_that_was_closed_is_tried_anew(self):
        desk = desk_of(NICHE, ("cart", 20, 0, 20), ("cart", 20, 2, 0))
        desk.tell(3, 4)
        self.assertEqual((desk.state(0), desk.why(0)), (("waiting",), [(0, "closed"), (1, "closed")]))
        desk.go_on(3)
        self.assertEqual((desk.state(0), desk.why(0)), (("waiting",), [(0, "closed"), (1, "closed")]))
        desk = desk_of(NICHE, ("cart", 20, 0, 20), ("cart", 2, 2, 2))
        desk.tell(3, 4)
        self.assertEqual(desk.why(0), [(0, "closed"), (1, "closed")])
        desk.fleet.send(1, [7], 0)
        self.assertEqual(desk.why(0), [(0, "able"), (1, "busy")])
        desk.go_on()
        self.assertEqual(desk.state(0), ("going", 0, 5))

    def test_one_that_was_busy_is_tried_as_soon_as_it_is_idle(self):
        desk = desk_of(NICHE, ("cart", 20, 0, 20))
        desk.fleet.send(0, [3])
        desk.tell(4, 4)
        for tick in range(3):
            self.assertEqual((desk.state(0), desk.why(0)), (("waiting",), [(0, "busy")]))
            desk.go_on()
        self.assertEqual(desk.state(0), ("going", 0, 4))

    def test_closed_ones_are_closed_however_much_is_charged(self):
        desk = desk_of(NICHE, ("cart", 3, 0, 0))
        desk.tell(1, 3)
        desk.go_on(9)
        self.assertEqual((desk.state(0), desk.why(0)), (("waiting",), [(0, "closed")]))
        desk.tell(1, 1)
        desk.go_on(2)
        self.assertEqual((desk.state(1)[0], desk.why(0)), ("done", [(0, "closed")]))


class TestState(Telling):
    def test_by_the_fleets_time(self):
        desk = desk_of(NICHE, ("cart", 20, 0, 20))
        desk.tell(2, 3)
        told = []
        for tick in range(5):
            told.append(desk.state(0))
            desk.fleet.pass_time()
        self.assertEqual(told, [("going", 0, 3)] * 3 + [("done", 0, 3)] * 2)
        self.assertEqual(desk.state(task=0), ("done", 0, 3))

    def test_where_the_fleet_is_changed_beside_the_desk(self):
        desk = desk_of(NICHE, ("cart", 20, 0, 20), ("cart", 20, 4, 20))
        desk.tell(2, 2)
        desk.fleet.pass_time(2)
        self.assertEqual(desk.state(0), ("done", 0, 2))
        desk.fleet.send(0, [7])
        self.assertEqual(desk.state(0), ("done", 0, 2))
        desk.tell(4, 3)
        self.assertEqual(desk.state(1), ("going", 1, 3))
        desk.fleet.pass_time(1)
        self.assertEqual(cleared(desk.fleet, 0, [3]), [1])
        self.assertEqual([desk.state(0), desk.state(1)], [("done", 0, 2), ("done", 1, 3)])

    def test_two_desks_of_one_fleet(self):
        fleet = fleet_of(NICHE, ("cart", 20, 0, 20))
        one, other = Desk(fleet), Desk(fleet)
        one.tell(2, 3)
        other.tell(1, 1)
        self.assertEqual((one.state(0), other.state(0)), (("going", 0, 3), ("waiting",)))
        one.go_on(3)
        self.assertEqual((one.state(0), other.state(0)), (("done", 0, 3), ("waiting",)))
        self.assertEqual(other.why(0), [(0, "able")])
        other.go_on()
        self.assertEqual(other.state(0), ("going", 0, 6))

    def test_no_task(self):
        desk = desk_of(NICHE, ("cart", 20, 0, 20))
        for task in NO_NUMBERS + (0, 1, -1):
            self.refused(NoTask, desk.state, task)
            self.refused(NoTask, desk.why, task)
        desk.tell(2, 3)
        desk.tell(2, 3)
        before = (picture(desk.fleet), told_of(desk))
        for task in NO_NUMBERS + (2, 3, -1, -2, GREAT, -GREAT):
            self.refused(NoTask, desk.state, task)
            self.refused(NoTask, desk.why, task)
        self.assertEqual((picture(desk.fleet), told_of(desk)), before)


class TestWhy(Telling):
    def test_no_carrier(self):
        desk = desk_of(NICHE)
        desk.tell(2, 4)
        self.assertEqual((desk.why(0), desk.why(task=0)), ([], []))

    def test_each_word(self):
        lines = ["+..#...", "~##.#.#", "..#+..."]
        desk = desk_of(
            lines, ("cart", 20, 1, 20), ("crawler", 20, 4, 0), ("crawler", 20, 0, 20), ("runner", 20, 17, 20))
        desk.fleet.send(2, [7])
        desk.tell(14, 7)
        self.assertEqual(desk.why(0), [(0, "kind"), (1, "closed"), (2, "busy"), (3, "kind")])
        desk.tell(6, 5)
        self.assertEqual(desk.why(1), [(0, "closed"), (1, "closed"), (2, "busy"), (3, "reserve")])
        desk.fleet.add("cart", 20, 18, 20)
        self.assertEqual(desk.why(1), [(0, "closed"), (1, "closed"), (2, "busy"), (3, "reserve"), (4, "able")])

    def test_kind_of_each_of_both_cells(self):
        desk = desk_of(["+.~."], ("cart", 20, 1, 20), ("runner", 20, 0, 20))
        for begin, goal in ((2, 1), (1, 2), (2, 2)):
            task = desk.tell(begin, goal)
            self.assertEqual(desk.why(task), [(0, "kind"), (1, "kind")])

    def test_busy_ahead_of_all_others(self):
        desk = desk_of(["+.#~.", "....."], ("cart", 20, 4, 20))
        desk.fleet.send(0, [8], 0)
        self.assertEqual(desk.why(desk.tell(3, 4)), [(0, "busy")])
        desk = desk_of(["+#~.."], ("cart", 20, 3, 20))
        desk.fleet.send(0, [4], 0)
        tasks = [desk.tell(2, 3), desk.tell(0, 4), desk.tell(4, 0), desk.tell(3, 3)]
        self.assertEqual([desk.why(task) for task in tasks], [[(0, "busy")]] * 4)
        desk.fleet.pass_time()
        words = ["kind", "reserve", "closed", "reserve"]
        self.assertEqual([desk.why(task) for task in tasks], [[(0, word)] for word in words])

    def test_kind_ahead_of_reserve_and_closed(self):
        desk = desk_of(["+#~.."], ("cart", 20, 3, 20))
        self.assertEqual(desk.why(desk.tell(2, 4)), [(0, "kind")])
        self.assertEqual(desk.why(desk.tell(2, 0)), [(0, "kind")])

    def test_reserve_ahead_of_closed(self):
        desk = desk_of(["+#.#."], ("cart", 20, 0, 20))
        self.assertEqual(desk.why(desk.tell(0, 2)), [(0, "reserve")])
        self.assertEqual(desk.why(desk.tell(2, 0)), [(0, "closed")])

    def test_able(self):
        desk = desk_of(NICHE)
        desk.tell(2, 4)
        desk.fleet.add("cart", 20, 0, 20)
        desk.fleet.add("cart", 20, 4, 20)
        self.assertEqual(desk.why(0), [(0, "closed"), (1, "able")])
        self.assertEqual(desk.state(0), ("waiting",))

    def test_of_tasks_that_do_not_wait(self):
        desk = desk_of(NICHE, ("cart", 20, 0, 20))
        desk.tell(2, 4)
        self.assertEqual((desk.state(0)[0], desk.why(0)), ("going", []))
        desk.go_on(4)
        self.assertEqual((desk.state(0)[0], desk.why(0)), ("done", []))

    def test_why_changes_nothing(self):
        desk = desk_of(NICHE)
        desk.tell(2, 4)
        desk.fleet.add("cart", 20, 0, 20)
        before = picture(desk.fleet)
        for again in range(3):
            self.assertEqual(desk.why(0), [(0, "able")])
        self.assertEqual((picture(desk.fleet), desk.state(0)), (before, ("waiting",)))

    def test_pairs_are_tuples(self):
        desk = desk_of(["+.~"], ("cart", 20, 0, 20))
        told = desk.why(desk.tell(2, 2))
        self.assertEqual((type(told), type(told[0])), (list, tuple))
        self.assertEqual((type(desk.state(0)), desk.state(0)), (tuple, ("waiting",)))


class TestGoingOn(Telling):
    def test_ticks(self):
        desk = desk_of(NICHE, ("cart", 20, 0, 20))
        for ticks, time in ((0, 0), (1, 1), (7, 8), (1000, 1008)):
            self.assertIsNone(desk.go_on(ticks))
            self.assertEqual(desk.fleet.time(), time)
        self.assertIsNone(desk.go_on())
        self.assertIsNone(desk.go_on(ticks=2))
        self.assertEqual(desk.fleet.time(), 1011)

    def test_nought_ticks_change_nothing(self):
        desk = desk_of(NICHE, ("cart", 20, 0, 20))
        desk.tell(2, 3)
        desk.tell(4, 4)
        before = (picture(desk.fleet), told_of(desk))
        desk.go_on(0)
        self.assertEqual((picture(desk.fleet), told_of(desk)), before)

    def test_many_ticks_with_ones_that_wait(self):
        desk = desk_of(NICHE, ("cart", 20, 0, 20), ("cart", 20, 2, 0))
        desk.tell(3, 4)
        desk.tell(7, 4)
        desk.go_on(1000)
        self.assertEqual([desk.state(0), desk.state(1)], [("waiting",), ("waiting",)])

    def test_at_once_or_tick_by_tick(self):
        desks = [desk_of(NICHE, ("cart", 20, 0, 20), ("cart", 20, 3, 20)) for again in range(2)]
        for desk in desks:
            for begin, goal in ((2, 3), (4, 1), (1, 0), (7, 4)):
                desk.tell(begin, goal)
        desks[0].go_on(40)
        for tick in range(40):
            desks[1].go_on()
        self.assertEqual(told_of(desks[0]), told_of(desks[1]))
        self.assertEqual(picture(desks[0].fleet), picture(desks[1].fleet))

    def test_settle(self):
        desk = desk_of(NICHE, ("cart", 20, 0, 20))
        for begin, goal in ((2, 3), (4, 1), (7, 7)):
            desk.tell(begin, goal)
        self.assertEqual(desk.settle(), [])
        self.assertEqual([desk.state(task) for task in range(3)], [("done", 0, 3), ("done", 0, 7), ("done", 0, 9)])
        self.assertEqual(desk.fleet.time(), 9)

    def test_settle_where_some_wait(self):
        desk = desk_of(["+.~.."], ("cart", 20, 0, 20))
        for begin, goal in ((2, 0), (1, 1), (0, 4), (0, 1), (1, 2)):
            desk.tell(begin, goal)
        self.assertEqual(desk.settle(), [0, 2, 4])
        self.assertEqual([desk.state(task)[0] for task in range(5)], ["waiting", "done", "waiting", "done", "waiting"])
        self.assertEqual([desk.why(task) for task in (0, 2, 4)], [[(0, "kind")], [(0, "reserve")], [(0, "kind")]])

    def test_settle_where_none_is_going(self):
        desk = desk_of(NICHE)
        desk.tell(2, 3)
        desk.fleet.add("cart", 20, 0, 20)
        self.assertEqual((desk.settle(), desk.fleet.time()), ([0], 0))
        self.assertEqual(desk.state(0), ("waiting",))

    def test_settle_does_not_wait_for_ways_without_a_task(self):
        desk = desk_of(NICHE, ("cart", 20, 0, 20))
        desk.fleet.send(0, [4])
        desk.tell(2, 3)
        self.assertEqual((desk.settle(), desk.fleet.time()), ([0], 0))

    def test_settle_where_one_makes_room_for_another(self):
        # Number 1 stands in the way to 3 until its own task leads it into the niche.
        desk = desk_of(["+....", "##+##"], ("crawler", 20, 0, 20), ("cart", 20, 2, 20))
        desk.tell(1, 3)
        desk.tell(7, 7)
        self.assertEqual(desk.state(0), ("going", 1, 3))
        desk = desk_of(["+..~.", "##+##"], ("crawler", 20, 0, 20), ("cart", 20, 2, 20))
        desk.tell(1, 3)
        desk.tell(7, 7)
        self.assertEqual([desk.state(0), desk.state(1)], [("waiting",), ("going", 1, 1)])
        self.assertEqual(desk.settle(), [])
        self.assertEqual([desk.state(0), desk.state(1)], [("done", 0, 4), ("done", 1, 1)])

    def test_told_lists_are_the_askers_own(self):
        desk = desk_of(["+.~.."], ("cart", 20, 0, 20))
        desk.tell(2, 0)
        desk.tell(1, 2)
        before = (picture(desk.fleet), told_of(desk))
        why, waiting = desk.why(0), desk.settle()
        why.append(7)
        waiting.clear()
        self.assertEqual((picture(desk.fleet), told_of(desk), desk.settle()), before + ([0, 1],))
        kept = desk.why(0)
        desk.fleet.add("crawler", 20, 1, 20)
        desk.go_on(30)
        self.assertEqual(kept, [(0, "kind")])


class TestAgainstPlainDesks(unittest.TestCase):
    def change(self, chance, fleets):
        """The same change of both fleets, beside their desks."""
        cells = fleets[0].floor.cells()
        what = chance.choice(("add", "add", "send", "clear", "pass"))
        given = (chance.choice(KINDS), chance.choice((9, 20)), chance.choice(cells), chance.choice((0, 3, 9)))
        number, stops, ticks = chance.randrange(8), [chance.choice(cells)], chance.randrange(4)
        for fleet in fleets:
            try:
                if what == "add":
                    fleet.add(*given)
                elif what == "send":
                    fleet.send(number, stops, 0)
                elif what == "clear":
                    cleared(fleet, number, stops)
                else:
                    fleet.pass_time(ticks)
            except FloorError:
                pass

    def call(self, chance, desk, plain, floor):
        what = chance.choice(("tell", "tell", "tell", "go on", "go on", "settle"))
        if what == "tell":
            given = (chance.choice(floor.cells()), chance.choice(floor.cells()))
            self.assertEqual(desk.tell(*given), plain.tell(*given))
        elif what == "settle":
            self.assertEqual(desk.settle(), plain.settle())
        else:
            ticks = chance.choice((0, 1, 1, 2, 5))
            self.assertEqual(desk.go_on(ticks), plain.go_on(ticks))

    def test_rows_of_calls(self):
        chance = random.Random(19)
        words, states = {}, {}
        floors = FLOORS + (NICHE, ["+......", "##.#.##"], ["+.~.+", ".#|#.", "+.|.."])
        for lines, again in itertools.product(floors, range(6)):
            floor = Floor(lines)
            desk, plain = Desk(Fleet(floor)), PlainDesk(Fleet(floor))
            for call in range(20):
                if call < 4 or chance.randrange(3) == 0:
                    self.change(chance, (desk.fleet, plain.fleet))
                else:
                    self.call(chance, desk, plain, floor)
                told = told_of(desk)
                self.assertEqual(told, plain.told())
                self.assertEqual(picture(desk.fleet), picture(plain.fleet))
                self.assertEqual(meetings(held(desk.fleet.book())), [])
                for state in told[0]:
                    states[state[0]] = states.get(state[0], 0) + 1
                for number, word in itertools.chain(*told[1]):
                    words[word] = words.get(word, 0) + 1
        for word in ("busy", "kind", "reserve", "closed", "able"):
            self.assertGreater(words.get(word, 0), 20, word)
        for word in ("waiting", "going", "done"):
            self.assertGreater(states.get(word, 0), 20, word)

    def test_settled(self):
        chance = random.Random(20)
        for lines, again in itertools.product(FLOORS + (NICHE,), range(5)):
            desk = Desk(Fleet(Floor(lines)))
            for some in range(5):
                self.change(chance, (desk.fleet,))
            for task in range(6):
                desk.tell(chance.choice(desk.fleet.floor.cells()), chance.choice(desk.fleet.floor.cells()))
                desk.go_on(chance.randrange(3))
            waiting = desk.settle()
            states = [desk.state(task)[0] for task in range(6)]
            self.assertEqual(waiting, [task for task in range(6) if states[task] == "waiting"])
            self.assertNotIn("going", states)
            for task in waiting:
                words = [word for number, word in desk.why(task) if desk.fleet.is_idle(number)]
                self.assertTrue(set(words) <= {"kind", "reserve", "closed"}, words)


if __name__ == "__main__":
    unittest.main()
