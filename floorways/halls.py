"""Halls: lines of text, and what a floor with its carriers and tasks answers to them."""

from floorways.errors import (
    BadCell, BadCharge, BadKind, BadStops, Busy, Closed, Jammed, NoCarrier, NoReserve, NoTask, Taken)
from floorways.fleets import Fleet
from floorways.floors import Floor
from floorways.tasks import Desk
from floorways.turns import cleared
from floorways.ways import last_time
from floorways.words import is_among, number_of, number_text

# The least and the most numbers that a line has behind its first word, and behind KIND.
MANY = {
    "add": (3, 3),
    "send": (2, 5),
    "clear": (2, 5),
    "task": (2, 2),
    "pass": (1, 1),
    "where": (1, 1),
    "state": (1, 1),
    "why": (1, 1),
    "settle": (0, 0),
    "show": (0, 0),
}
MOST_TICKS = 1000


class Hall:
    def __init__(self, lines):
        self.floor = Floor(lines)
        self.fleet = Fleet(self.floor)
        self.desk = Desk(self.fleet)

    def floor_lines(self):
        return list(self.floor.lines)

    def answer(self, line):
        words = words_of(line)
        numbers = numbers_among(words)
        if not is_line(words, numbers):
            return "no such line"
        try:
            return self.answer_words(words, numbers)
        except BadKind:
            return "bad kind"
        except BadCell:
            return "bad cell"
        except BadCharge:
            return "bad charge"
        except BadStops:
            return "bad stops"
        except NoCarrier:
            return "no carrier"
        except NoTask:
            return "no task"
        except Taken:
            return "taken"
        except Busy:
            return "busy"
        except NoReserve:
            return "no reserve"
        except Closed:
            return "closed"
        except Jammed as refusal:
            return "jammed " + number_text(refusal.other)

    def answer_words(self, words, numbers):
        if words[0] == "add":
            return "carrier " + number_text(self.fleet.add(words[1], numbers[0], numbers[1], numbers[2]))
        if words[0] == "send":
            return "there at " + number_text(self.fleet.send(numbers[0], numbers[1:]))
        if words[0] == "clear":
            return self.answer_clear(numbers[0], numbers[1:])
        if words[0] == "task":
            return "task " + number_text(self.desk.tell(numbers[0], numbers[1]))
        if words[0] == "pass":
            self.desk.go_on(numbers[0])
            return self.time_line()
        if words[0] == "where":
            return self.answer_where(numbers[0])
        if words[0] == "state":
            return self.answer_state(numbers[0])
        if words[0] == "why":
            rows = [number_text(number) + " " + word for number, word in self.desk.why(numbers[0])]
            return ", ".join(rows) if rows else "none"
        if words[0] == "settle":
            waiting = self.desk.settle()
            return self.time_line() + row_of("waiting", waiting)
        return self.answer_show()

    def answer_clear(self, number, stops):
        turned = cleared(self.fleet, number, stops)
        return "there at " + number_text(last_time(self.fleet.way(number))) + row_of("turned", turned)

    def answer_where(self, number):
        cell = number_text(self.fleet.place(number))
        charge = number_text(self.fleet.charge(number))
        word = "idle" if self.fleet.is_idle(number) else "busy"
        return f"at {cell} charge {charge} {word}"

    def answer_state(self, task):
        state = self.desk.state(task)
        if state[0] == "waiting":
            return "waiting"
        between = "till" if state[0] == "going" else "at"
        return " ".join([state[0], number_text(state[1]), between, number_text(state[2])])

    def answer_show(self):
        signs = list("".join(self.floor.lines))
        for number in self.fleet.numbers():
            signs[self.fleet.place(number)] = number_text(number)[-1]
        wide = self.floor.wide
        return "/".join(["".join(signs[wide * row:wide * row + wide]) for row in range(self.floor.high)])

    def time_line(self):
        return "time " + number_text(self.fleet.time())


# No words where the line has other blanks than one between two words, or is no text.
def words_of(line):
    if not isinstance(line, str):
        return []
    words = line.split(" ")
    # Python splits without a sign to split by at every other blank, too.
    if not all([word.split() == [word] for word in words]):
        return []
    return words


# What a line's words write as numbers, None for each that writes none; KIND is any word.
def numbers_among(words):
    first = 2 if words[:1] == ["add"] else 1
    return [number_of(word) for word in words[first:]]


def is_line(words, numbers):
    if not words or words[0] not in MANY or None in numbers:
        return False
    bounds = MANY[words[0]]
    if not is_among(len(numbers), bounds[0], bounds[1]):
        return False
    return words[0] != "pass" or numbers[0] <= MOST_TICKS


# Behind an answer, a word and numbers, each with a blank ahead, or nothing where there are no numbers.
def row_of(word, numbers):
    if not numbers:
        return ""
    return " ".join(["", word] + [number_text(number) for number in numbers])
