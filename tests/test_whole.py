"""From lines to answers, tick by tick: what [1] promises over the whole program, seen by the answers alone."""

import copy
import itertools
import random
import re
import unittest

from floorways.carriers import Crawler
from floorways.costs import cheapest, costs_to, needs_of
from floorways.errors import Closed
from floorways.floors import Floor
from floorways.halls import Hall
from floorways.heaps import Heap
from floorways.layers import first_layer, next_layer
from floorways.meets import meetings
from floorways.rests import rested
from floorways.seeks import sought
from floorways.tasks import Desk
from floorways.turns import cleared
from floorways.ways import walked
from plain import FLOORS, KINDS, book_of, fleet_of, held, picture, plain_tick

NICHES = ["+......", "##.#.##"]
HALLS = FLOORS + (
    ["+....", "##.##"], NICHES, ["+.|.+", ".#.#.", "+.|.."], ["......", ".+~~..", "..||..", "+....."],
    ["..|.+.....", "..|.......", "..|..~~...", "+.|..~~...", "..|..###..", "..|......+"])


class Watcher:
    """Asks a hall and holds it to the rules."""

    def __init__(self, test, lines):
        self.test = test
        self.floor = Floor(lines)
        self.hall = Hall(lines)
        self.now = 0
        self.kinds = []
        self.due = []
        self.seen = {}
        # For each task its cells, and the places of each carrier at each time.
        self.tasks = []
        self.past = []

    def ask(self, line):
        answer = self.hall.answer(line)
        word = re.sub("[0-9]+", "N", answer)
        self.seen[word] = self.seen.get(word, 0) + 1
        return answer

    def where(self):
        rows = []
        for number in range(len(self.kinds)):
            cell, charge, word = re.fullmatch(
                r"at (\d+) charge (\d+) (idle|busy)", self.ask("where %d" % number)).groups()
            rows.append((int(cell), int(charge), word))
        return rows

    def add(self, kind, full, cell, charge):
        if self.ask("add %s %d %d %d" % (kind, full, cell, charge)).startswith("carrier"):
            self.kinds.append((kind, full))
            self.test.assertEqual(self.where()[-1], (cell, charge, "idle"))

    def go(self, word, number, stops):
        told = self.ask(" ".join([word, str(number)] + [str(stop) for stop in stops]))
        match = re.fullmatch(r"there at (\d+)( turned( \d+)+)?", told)
        if match:
            self.due.append((self.now, int(match.group(1)), number, stops))
            self.kept(self.where())

    def task(self, begin, goal):
        if self.ask("task %d %d" % (begin, goal)).startswith("task"):
            self.tasks.append((begin, goal))

    def tick(self):
        before = self.where()
        self.past.append([row[0] for row in before])
        self.now += 1
        self.test.assertEqual(self.ask("pass 1"), "time %d" % self.now)
        after = self.where()
        for (kind, full), (cell, charge, word), (other, left, later) in zip(self.kinds, before, after):
            self.test.assertEqual(left, plain_tick(self.floor, kind, full, charge, cell, other))
            self.test.assertTrue(0 <= left <= full)
            if word == "idle":
                self.test.assertEqual(other, cell)
        self.apart([row[0] for row in before], [row[0] for row in after])
        self.kept(after)
        self.shown(after)

    def apart(self, before, after):
        self.test.assertEqual(len(set(after)), len(after))
        for one, other in itertools.combinations(range(len(after)), 2):
            self.test.assertNotEqual((after[one], after[other]), (before[other], before[one]))

    def kept(self, rows):
        """Whoever was told to be there now is there; a task that is told as done was done by then."""
        for begin, time, number, stops in self.due:
            if time == self.now:
                self.test.assertEqual(rows[number][0], stops[-1])
                self.came_by([row[number] for row in self.past[begin:]] + [stops[-1]], stops)
        for task, (begin, goal) in enumerate(self.tasks):
            match = re.fullmatch(r"(going|done) (\d+) (till|at) (\d+)", self.ask("state %d" % task))
            if match:
                self.done(match, begin, goal, rows)

    def came_by(self, places, stops):
        """Whether the stops were met one after the other, several alike ones at once, too."""
        for stop in stops:
            self.test.assertIn(stop, places)
            places = places[places.index(stop):]

    def done(self, match, begin, goal, rows):
        word, number, time = match.group(1), int(match.group(2)), int(match.group(4))
        self.test.assertEqual(word == "going", time > self.now)
        if time == self.now:
            self.test.assertEqual(rows[number][0], goal)
            places = [row[number] for row in self.past if number < len(row)] + [goal]
            self.test.assertIn(begin, places)
        if word == "going":
            self.test.assertEqual(rows[number][2], "busy")

    def shown(self, rows):
        signs = list("".join(self.hall.floor_lines()))
        for number, row in enumerate(rows):
            signs[row[0]] = str(number)
        self.test.assertEqual(self.ask("show").replace("/", ""), "".join(signs))


class TestTickByTick(unittest.TestCase):
    def some_line(self, chance, watcher):
        cells = watcher.floor.cells()
        what = chance.choice(("add", "send", "send", "clear", "clear", "task", "task"))
        if what == "add" or not watcher.kinds:
            full = chance.choice((9, 20, 60))
            watcher.add(chance.choice(KINDS), full, chance.choice(cells), chance.randrange(full + 1))
        elif what == "task":
            watcher.task(chance.choice(cells), chance.choice(cells))
        else:
            stops = [chance.choice(cells) for stop in range(chance.choice((1, 1, 2, 3, 4)))]
            watcher.go(what, chance.randrange(len(watcher.kinds)), stops)

    def test_some_halls(self):
        chance = random.Random(1)
        seen = {}
        for lines, again in itertools.product(HALLS, range(4)):
            watcher = Watcher(self, lines)
            for row in range(60):
                for some in range(chance.choice((0, 1, 2))):
                    self.some_line(chance, watcher)
                watcher.tick()
            for word, many in watcher.seen.items():
                seen[word] = seen.get(word, 0) + many
        for word in (
                "there at N", "there at N turned N", "jammed N", "closed", "busy", "taken", "going N till N",
                "done N at N", "waiting", "at N charge N busy"):
            self.assertGreater(seen.get(word, 0), 0, word)

    def test_a_hall_by_hand(self):
        hall = Hall(NICHES)
        rows = (
            ("add cart 20 0 6", "carrier 0"), ("add cart 20 4 15", "carrier 1"), ("add crawler 20 6 3", "carrier 2"),
            ("show", "0...1.2/##.#.##"), ("task 5 3", "task 0"), ("state 0", "going 1 till 3"),
            ("task 11 9", "task 1"), ("state 1", "waiting"), ("why 1", "0 closed, 1 busy, 2 closed"),
            ("pass 1", "time 1"), ("show", "0....12/##.#.##"), ("where 0", "at 0 charge 8 idle"),
            ("pass 2", "time 3"), ("state 0", "done 1 at 3"), ("where 1", "at 3 charge 12 busy"),
            ("state 1", "going 1 till 9"), ("where 0", "at 0 charge 12 idle"),
            # It waits until number 1 is in its niche, and number 2 until number 1 has left the other one.
            ("clear 0 6", "there at 13 turned 2"), ("settle", "time 9"), ("state 1", "done 1 at 9"),
            ("show", "+.0..../##1#2##"), ("where 0", "at 2 charge 18 busy"), ("where 1", "at 9 charge 6 idle"),
            ("where 2", "at 11 charge 0 idle"), ("pass 4", "time 13"), ("where 0", "at 6 charge 14 idle"))
        for line, answer in rows:
            self.assertEqual((line, hall.answer(line)), (line, answer))


def shut_layer(call, *given):
    try:
        call(*given)
    except Closed as refusal:
        return refusal.shut.layer
    return None


def spoil(told):
    told.clear()
    if isinstance(told, list):
        told.append((7, 7))
    else:
        told[(7, 7)] = 7


class TestToldAndHandedIn(unittest.TestCase):
    def setUp(self):
        self.floor = Floor(["+.~.+", "##|#."])
        self.book = book_of({0: (0, (0, 1)), 3: (2, (4,))})
        self.fleet = fleet_of(["+..#+"], ("cart", 20, 0, 20), ("cart", 20, 1, 9))
        self.desk = Desk(self.fleet)
        self.desk.tell(0, 4)
        self.hall = Hall(["+..#+"])
        self.heap = Heap()
        for thing in ((3, 1), (2,), (7, 7, 7)):
            self.heap.put(thing)

    def calls(self):
        crawler, layer = Crawler(20), {(0, 7): 5}
        asked = (self.floor, crawler, self.book, 1)
        return (
            self.floor.cells, self.floor.chargers, lambda: self.floor.beside(2), self.heap.lying, self.book.numbers,
            lambda: crawler.steps(self.floor, 2), lambda: costs_to(self.floor, crawler, [0]),
            lambda: needs_of(self.floor, crawler), lambda: cheapest(self.floor, crawler, 7, [0]),
            lambda: walked(self.floor, crawler, (0, (7, 2)), 9), lambda: meetings({1: (0, (2,)), 0: (0, (2,))}),
            lambda: first_layer([7], 7, 5), lambda: next_layer(*asked, [0], 0, layer),
            lambda: sought(*asked, 0, 7, 5, [0], 30).layer, lambda: rested(*asked, 2, 4, 0).layer,
            self.fleet.numbers, lambda: self.fleet.sees(0, [4]).layer, lambda: shut_layer(self.fleet.send, 0, [4]),
            lambda: shut_layer(cleared, self.fleet, 0, [4]), lambda: self.desk.why(0), self.desk.settle,
            self.hall.floor_lines)

    def test_what_is_told_is_the_askers_own(self):
        for call in self.calls():
            told = call()
            kept = copy.deepcopy(told)
            self.assertIn(type(told), (list, dict))
            spoil(told)
            self.assertEqual(call(), kept)

    def test_nothing_that_is_asked_later_changes_what_was_told(self):
        told = [call() for call in self.calls()]
        kept = copy.deepcopy(told)
        for call in self.calls():
            spoil(call())
        self.heap.take()
        self.book.drop(0)
        self.fleet.add("cart", 20, 4, 20)
        self.fleet.pass_time(9)
        cleared(self.fleet, 0, [1])
        self.desk.go_on(5)
        self.assertEqual(told, kept)

    def test_asking_changes_nothing(self):
        before = (picture(self.fleet), held(self.book), self.heap.lying(), self.desk.state(0), self.hall.answer("show"))
        for call in self.calls():
            call()
        after = (picture(self.fleet), held(self.book), self.heap.lying(), self.desk.state(0), self.hall.answer("show"))
        self.assertEqual(before, after)

    def test_what_is_handed_in_is_not_changed(self):
        lines, stops, goals, ways, layer = ["+....", "##.##"], [4, 3], [4, 0], {0: (0, (2,)), 1: (0, (2,))}, {(0, 0): 9}
        given = (lines, stops, goals, ways, layer)
        kept = copy.deepcopy(given)
        fleet = fleet_of(lines, ("cart", 20, 0, 20), ("cart", 20, 2, 9))
        cart = fleet.carrier(0)
        costs_to(fleet.floor, cart, goals)
        cheapest(fleet.floor, cart, 2, goals)
        meetings(ways)
        first_layer(stops, 0, 9)
        next_layer(fleet.floor, cart, fleet.book(), 0, stops, 0, layer)
        sought(fleet.floor, cart, fleet.book(), 0, 0, 0, 20, stops)
        fleet.sees(0, stops)
        cleared(fleet, 0, stops)
        fleet.pass_time(5)
        fleet.send(0, stops)
        Hall(lines).answer("settle")
        self.assertEqual(given, kept)


if __name__ == "__main__":
    unittest.main()
