"""Tasks: what is to be taken from one cell to another, and the carriers that do it."""

from floorways.errors import BadCell, BadStops, NoReserve, NoTask
from floorways.seeks import Shut
from floorways.ways import last_time
from floorways.words import is_among


class Desk:
    def __init__(self, fleet):
        self.fleet = fleet
        # A task's number is its index here.
        self.pairs = []
        # From each task that was started to the number of its carrier and the time at which it is done.
        self.started = {}
        self.closed = {}

    def tell(self, begin, goal):
        if not self.fleet.floor.has(begin) or not self.fleet.floor.has(goal):
            raise BadCell("a task is a pair of cells")
        self.pairs.append((begin, goal))
        self.start_waiting()
        return len(self.pairs) - 1

    def state(self, task):
        self.check_task(task)
        if task not in self.started:
            return ("waiting",)
        word = "done" if self.started[task][1] <= self.fleet.time() else "going"
        return (word,) + self.started[task]

    def tasks(self):
        return len(self.pairs)

    def why(self, task):
        self.check_task(task)
        if task in self.started:
            return []
        return [(number, self.outlook(task, number)[0]) for number in self.fleet.numbers()]

    def go_on(self, ticks=1):
        for tick in range(ticks):
            self.fleet.pass_time()
            self.start_waiting()

    def settle(self):
        while any([self.state(task)[0] == "going" for task in self.started]):
            self.go_on()
        return self.waiting()

    def waiting(self):
        return [task for task in range(len(self.pairs)) if task not in self.started]

    def start_waiting(self):
        for task in self.waiting():
            self.start_if_able(task)

    def start_if_able(self, task):
        able = []
        for number in self.fleet.numbers():
            told = self.outlook(task, number)
            if told[0] == "able":
                able.append((told[1], number))
        if able:
            number = min(able)[1]
            self.started[task] = (number, self.fleet.send(number, list(self.pairs[task])))

    # The word of a carrier for a task, and the time at which it would be there, None where it isn't able.
    def outlook(self, task, number):
        if not self.fleet.is_idle(number):
            return ("busy", None)
        ways = self.fleet.book().ways
        # One that sees no way sees none later either, as long as all ways stay as they are: it could have waited.
        if self.closed.get((task, number)) == ways:
            return ("closed", None)
        try:
            told = self.fleet.sees(number, list(self.pairs[task]))
        except BadStops:
            return ("kind", None)
        except NoReserve:
            return ("reserve", None)
        if isinstance(told, Shut):
            self.closed[(task, number)] = ways
            return ("closed", None)
        return ("able", last_time(told.path))

    def check_task(self, task):
        if not is_among(task, 0, len(self.pairs) - 1):
            raise NoTask("the desk has no task of that number")
