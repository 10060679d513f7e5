"""From lines to answers, tick by tick: what [1] promises over the whole program, seen by the answers alone."""

import itertools
import random
import re
import unittest

from floorways.floors import Floor
from floorways.halls import Hall
from plain import FLOORS, KINDS, plain_tick

NICHES = ["+......", "##.#.##"]
HALLS = FLOORS + (
    ["+....", "##.##"], NICHES, ["+.|.+", ".#.#.", "+.|.."], ["......", ".+~~..", "..||..", "+....."],
    ["..|.+.....", "..|.......", "..|..~~...", "+.|..~~...", "..|..###..", "..|......+"])


class Watcher:
    """Asks a hall and holds it to the rules."""

    def __init__(self, test, lines):
        self.test = test
        self.floor = Floor(lines)
        self.hall = Hall(lines)
        self.now = 0
        self.kinds = []
        self.due = []
        self.seen = {}
        # For each task its cells, and the places of each carrier at each time.
        self.tasks = []
        self.past = []

    def ask(self, line):
        answer = self.hall.answer(line)
        word = re.sub("[0-9]+", "N", answer)
        self.seen[word] = self.seen.get(word, 0) + 1
        return answer

    def where(self):
        rows = []
        for number in range(len(self.kinds)):
            cell, charge, word = re.fullmatch(
                r"at (\d+) charge (\d+) (idle|busy)", self.ask("where %d" % number)).groups()
            rows.append((int(cell), int(charge), word))
        return rows

    def add(self, kind, full, cell, charge):
        if self.ask("add %s %d %d %d" % (kind, full, cell, charge)).startswith("carrier"):
            self.kinds.append((kind, full))
            self.test.assertEqual(self.where()[-1], (cell, charge, "idle"))

    def go(self, word, number, stops):
        told = self.ask(" ".join([word, str(number)] + [str(stop) for stop in stops]))
        match = re.fullmatch(r"there at (\d+)( turned( \d+)+)?", told)
        if match:
            self.due.append((self.now, int(match.group(1)), number, stops))
            self.kept(self.where())

    def task(self, begin, goal):
        if self.ask("task %d %d" % (begin, goal)).startswith("task"):
            self.tasks.append((begin, goal))

    def tick(self):
        before = self.where()
        self.past.append([row[0] for row in before])
        self.now += 1
        self.test.assertEqual(self.ask("pass 1"), "time %d" % self.now)
        after = self.where()
        for (kind, full), (cell, charge, word), (other, left, later) in zip(self.kinds, before, after):
            self.test.assertEqual(left, plain_tick(self.floor, kind, full, charge, cell, other))
            self.test.assertTrue(0 <= left <= full)
            if word == "idle":
                self.test.assertEqual(other, cell)
        self.apart([row[0] for row in before], [row[0] for row in after])
        self.kept(after)
        self.shown(after)

    def apart(self, before, after):
        self.test.assertEqual(len(set(after)), len(after))
        for one, other in itertools.combinations(range(len(after)), 2):
            self.test.assertNotEqual((after[one], after[other]), (before[other], before[one]))

    def kept(self, rows):
        """Whoever was told to be there now is there; a task that is told as done was done by then."""
        for begin, time, number, stops in self.due:
            if time == self.now:
                self.test.assertEqual(rows[number][0], stops[-1])
                self.came_by([row[number] for row in self.past[begin:]] + [stops[-1]], stops)
        for task, (begin, goal) in enumerate(self.tasks):
            match = re.fullmatch(r"(going|done) (\d+) (till|at) (\d+)", self.ask("state %d" % task))
            if match:
                self.done(match, begin, goal, rows)

    def came_by(self, places, stops):
        """Whether the stops were met one after the other, several alike ones at once, too."""
        for stop in stops:
            self.test.assertIn(stop, places)
            places = places[places.index(stop):]

    def done(self, match, begin, goal, rows):
        word, number, time = match.group(1), int(match.group(2)), int(match.group(4))
        self.test.assertEqual(word == "going", time > self.now)
        if time == self.now:
            self.test.assertEqual(rows[number][0], goal)
            places = [row[number] for row in self.past if number < len(row)] + [goal]
            self.test.assertIn(begin, places)
        if word == "going":
            self.test.assertEqual(rows[number][2], "busy")

    def shown(self, rows):
        signs = list("".join(self.hall.floor_lines()))
        for number, row in enumerate(rows):
            signs[row[0]] = str(number)
        self.test.assertEqual(self.ask("show").replace("/", ""), "".join(signs))


class TestTickByTick(unittest.TestCase):
    def some_line(self, chance, watcher):
        cells = watcher.floor.cells()
        what = chance.choice(("add", "send", "send", "clear", "clear", "task", "task"))
        if what == "add" or not watcher.kinds:
            full = chance.choice((9, 20, 60))
            watcher.add(chance.choice(KINDS), full, chance.choice(cells), chance.randrange(full + 1))
        elif what == "task":
            watcher.task(chance.choice(cells), chance.choice(cells))
        else:
            stops = [chance.choice(cells) for stop in range(chance.choice((1, 1, 2, 3, 4)))]
            watcher.go(what, chance.randrange(len(watcher.kinds)), stops)

    def test_some_halls(self):
        chance = random.Random(1)
        seen = {}
        for lines, again in itertools.product(HALLS, range(4)):
            watcher = Watcher(self, lines)
            for row in range(60):
                for some in range(chance.choice((0, 1, 2))):
                    self.some_line(chance, watcher)
                watcher.tick()
            for word, many in watcher.seen.items():
                seen[word] = seen.get(word, 0) + many
        for word in (
                "there at N", "there at N turned N", "there at N turned N N", "jammed N", "closed", "busy", "taken",
                "going N till N", "done N at N", "waiting", "at N charge N busy"):
            self.assertGreater(seen.get(word, 0), 0, word)

    def test_a_hall_by_hand(self):
        hall = Hall(NICHES)
        rows = (
            ("add cart 20 0 6", "carrier 0"), ("add cart 20 4 15", "carrier 1"), ("add crawler 20 6 3", "carrier 2"),
            ("show", "0...1.2/##.#.##"), ("task 5 3", "task 0"), ("state 0", "going 1 till 3"),
            ("task 11 9", "task 1"), ("state 1", "waiting"), ("why 1", "0 closed, 1 busy, 2 closed"),
            ("pass 1", "time 1"), ("show", "0....12/##.#.##"), ("where 0", "at 0 charge 8 idle"),
            ("pass 2", "time 3"), ("state 0", "done 1 at 3"), ("where 1", "at 3 charge 12 busy"),
            ("state 1", "going 1 till 9"), ("where 0", "at 0 charge 12 idle"),
            # It waits until number 1 is in its niche, and number 2 until number 1 has left the other one.
            ("clear 0 6", "there at 13 turned 2"), ("settle", "time 9"), ("state 1", "done 1 at 9"),
            ("show", "+.0..../##1#2##"), ("where 0", "at 2 charge 18 busy"), ("where 1", "at 9 charge 6 idle"),
            ("where 2", "at 11 charge 0 idle"), ("pass 4", "time 13"), ("where 0", "at 6 charge 14 idle"))
        for line, answer in rows:
            self.assertEqual((line, hall.answer(line)), (line, answer))


if __name__ == "__main__":
    unittest.main()
