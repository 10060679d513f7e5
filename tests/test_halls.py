import itertools
import random
import re
import unittest

from floorways.errors import BadFloor, FloorError, Jammed
from floorways.fleets import Fleet
from floorways.floors import Floor
from floorways.halls import Hall
from floorways.tasks import Desk
from floorways.turns import cleared
from floorways.ways import last_time
from plain import FLOORS, NO_NUMBERS, fleet_of

NICHE = ["+....", "##.##"]
NO_LINE = "no such line"
NUMBER = "(0|[1-9][0-9]{0,5})"
WORDS = {
    "BadKind": "bad kind", "BadCell": "bad cell", "BadCharge": "bad charge", "BadStops": "bad stops",
    "NoCarrier": "no carrier", "NoTask": "no task", "Taken": "taken", "Busy": "busy", "NoReserve": "no reserve",
    "Closed": "closed"}


class PlainHall:
    """What [20] and [21] say, done plainly, by patterns."""

    def __init__(self, lines):
        self.lines = list(lines)
        self.fleet = Fleet(Floor(lines))
        self.desk = Desk(self.fleet)

    def answer(self, line):
        try:
            return self.told(line)
        except Jammed as refusal:
            return "jammed %d" % refusal.other
        except FloorError as refusal:
            return WORDS[type(refusal).__name__]

    def told(self, line):
        for pattern, call in (
                (r"add (\S+) N N N", self.add), ("send N N( N)?( N)?( N)?", self.send),
                ("clear N N( N)?( N)?( N)?", self.clear), ("task N N", self.task), ("pass N", self.go_on),
                ("where N", self.where), ("state N", self.state), ("why N", self.why), ("settle", self.settle),
                ("show", self.show)):
            if re.fullmatch(pattern.replace("N", NUMBER), line):
                return call(*[int(word) if word.isdigit() else word for word in line.split(" ")[1:]])
        return NO_LINE

    def add(self, *given):
        return "carrier %d" % self.fleet.add(str(given[0]), *given[1:])

    def send(self, number, *stops):
        return "there at %d" % self.fleet.send(number, list(stops))

    def clear(self, number, *stops):
        turned = cleared(self.fleet, number, list(stops))
        told = "there at %d" % last_time(self.fleet.way(number))
        return told + (" turned " + " ".join(map(str, turned)) if turned else "")

    def task(self, begin, goal):
        return "task %d" % self.desk.tell(begin, goal)

    def go_on(self, ticks):
        if ticks > 1000:
            return NO_LINE
        self.desk.go_on(ticks)
        return "time %d" % self.fleet.time()

    def where(self, number):
        word = "idle" if self.fleet.is_idle(number) else "busy"
        return "at %d charge %d %s" % (self.fleet.place(number), self.fleet.charge(number), word)

    def state(self, task):
        state = self.desk.state(task)
        return {"waiting": "waiting", "going": "going %d till %d", "done": "done %d at %d"}[state[0]] % state[1:]

    def why(self, task):
        return ", ".join("%d %s" % pair for pair in self.desk.why(task)) or "none"

    def settle(self):
        waiting = self.desk.settle()
        return "time %d" % self.fleet.time() + (" waiting " + " ".join(map(str, waiting)) if waiting else "")

    def show(self):
        at = {self.fleet.place(number): str(number % 10) for number in self.fleet.numbers()}
        wide = len(self.lines[0])
        return "/".join(
            "".join(at.get(row * wide + column, sign) for column, sign in enumerate(line))
            for row, line in enumerate(self.lines))


class Answering(unittest.TestCase):
    def talk(self, hall, *pairs):
        for line, answer in pairs:
            told = hall.answer(line)
            self.assertEqual((line, told), (line, answer))
            self.assertIs(type(told), str)


class TestLines(Answering):
    def test_add_and_where(self):
        self.talk(
            Hall(["+.~|"]),
            ("add cart 20 1 9", "carrier 0"), ("add crawler 60 2 0", "carrier 1"), ("add runner 1 0 1", "carrier 2"),
            ("where 0", "at 1 charge 9 idle"), ("where 1", "at 2 charge 0 idle"), ("where 2", "at 0 charge 1 idle"))

    def test_send(self):
        self.talk(
            Hall(NICHE),
            ("add cart 20 0 20", "carrier 0"), ("send 0 2", "there at 2"), ("where 0", "at 0 charge 20 busy"),
            ("pass 1", "time 1"), ("where 0", "at 1 charge 19 busy"),
            ("pass 1", "time 2"), ("where 0", "at 2 charge 18 idle"),
            ("send 0 3 1", "there at 5"), ("pass 3", "time 5"), ("send 0 2 3 4", "there at 8"), ("pass 3", "time 8"),
            ("where 0", "at 4 charge 12 idle"),
            ("send 0 3 4 3 2", "there at 12"), ("pass 1000", "time 1008"), ("where 0", "at 2 charge 8 idle"))

    def test_send_keeps_the_need(self):
        self.talk(
            Hall(NICHE),
            ("add cart 20 2 2", "carrier 0"), ("send 0 4", "there at 10"), ("pass 10", "time 10"),
            ("where 0", "at 4 charge 4 idle"))

    def test_clear(self):
        self.talk(
            Hall(NICHE),
            ("add cart 20 0 20", "carrier 0"), ("clear 0 1", "there at 1"), ("add cart 20 2 9", "carrier 1"),
            ("clear 0 4", "busy"), ("pass 1", "time 1"), ("clear 0 4", "there at 4 turned 1"), ("pass 3", "time 4"),
            ("where 0", "at 4 charge 16 idle"), ("where 1", "at 7 charge 8 idle"))

    def test_clear_with_several_stops(self):
        self.talk(
            Hall(NICHE),
            ("add cart 20 0 20", "carrier 0"), ("clear 0 1 2 1 0", "there at 4"), ("pass 4", "time 4"),
            ("add cart 20 2 9", "carrier 1"), ("clear 0 3 1", "there at 9 turned 1"))

    def test_clear_with_several_that_turn_out(self):
        self.talk(
            Hall(["+......", "##.#.##"]),
            ("add cart 20 0 20", "carrier 0"), ("add cart 20 4 5", "carrier 1"), ("add cart 20 2 5", "carrier 2"),
            ("clear 0 6", "there at 6 turned 2 1"))

    def test_task_and_state(self):
        self.talk(
            Hall(NICHE),
            ("task 2 3", "task 0"), ("state 0", "waiting"), ("why 0", "none"), ("add cart 20 0 20", "carrier 0"),
            ("state 0", "waiting"), ("why 0", "0 able"), ("pass 0", "time 0"), ("state 0", "waiting"),
            ("task 4 4", "task 1"), ("state 0", "going 0 till 3"), ("why 0", "none"), ("state 1", "waiting"),
            ("why 1", "0 busy"), ("pass 2", "time 2"), ("state 0", "going 0 till 3"), ("pass 1", "time 3"),
            ("state 0", "done 0 at 3"), ("state 1", "going 0 till 4"), ("pass 1000", "time 1003"),
            ("state 1", "done 0 at 4"))

    def test_a_task_that_is_done_at_once(self):
        self.talk(
            Hall(NICHE),
            ("add cart 20 2 20", "carrier 0"), ("pass 12", "time 12"), ("task 2 2", "task 0"),
            ("state 0", "done 0 at 12"))

    def test_pass_goes_on_with_the_desk(self):
        self.talk(
            Hall(NICHE), ("task 1 1", "task 0"), ("add cart 20 0 20", "carrier 0"), ("pass 1", "time 1"),
            ("state 0", "going 0 till 2"), ("pass 1", "time 2"), ("where 0", "at 1 charge 19 idle"))

    def test_why_of_several(self):
        self.talk(
            Hall(["+..#...", "~##.#.#", "..#+..."]),
            ("add cart 20 1 20", "carrier 0"), ("add crawler 20 4 0", "carrier 1"), ("add crawler 20 0 20", "carrier 2"),
            ("add runner 20 17 20", "carrier 3"), ("send 2 7", "there at 1"), ("task 14 7", "task 0"),
            ("task 6 5", "task 1"), ("add cart 20 18 20", "carrier 4"),
            ("why 0", "0 kind, 1 closed, 2 busy, 3 kind, 4 kind"),
            ("why 1", "0 closed, 1 closed, 2 busy, 3 reserve, 4 able"))

    def test_settle(self):
        self.talk(
            Hall(["+.~.."]),
            ("settle", "time 0"), ("add cart 20 0 20", "carrier 0"), ("task 1 0", "task 0"), ("settle", "time 2"),
            ("task 2 0", "task 1"), ("settle", "time 2 waiting 1"), ("task 1 1", "task 2"), ("task 0 4", "task 3"),
            ("settle", "time 3 waiting 1 3"), ("state 2", "done 0 at 3"))

    def test_show(self):
        self.talk(
            Hall(["+.~|", "#..#", "...."]),
            ("show", "+.~|/#..#/...."), ("add crawler 20 2 20", "carrier 0"), ("show", "+.0|/#..#/...."),
            ("add cart 20 0 20", "carrier 1"), ("add runner 20 11 20", "carrier 2"), ("show", "1.0|/#..#/...2"),
            ("send 1 5", "there at 2"), ("show", "1.0|/#..#/...2"), ("pass 1", "time 1"), ("show", "+10|/#..#/...2"),
            ("pass 1", "time 2"), ("show", "+.0|/#1.#/...2"), ("pass 9", "time 11"), ("show", "+.0|/#1.#/...2"))
        self.talk(Hall(["."]), ("show", "."), ("add cart 20 0 20", "carrier 0"), ("show", "0"))

    def test_show_of_eight(self):
        hall = Hall(["..........", "+#########"])
        for number in range(8):
            self.talk(hall, ("add cart 20 %d 5" % (9 - number), "carrier %d" % number))
        self.talk(hall, ("show", "..76543210/+#########"), ("add cart 20 0 5", "taken"))

    def test_show_of_a_single_column(self):
        self.talk(
            Hall(["+", "|", "~"]), ("add runner 20 1 3", "carrier 0"), ("show", "+/0/~"), ("send 0 0", "there at 1"),
            ("pass 1", "time 1"), ("show", "0/|/~"))

    def test_by_name(self):
        self.assertEqual(Hall(lines=["+."]).answer(line="show"), "+.")

    def test_halls_are_apart(self):
        one, other = Hall(NICHE), Hall(NICHE)
        self.talk(one, ("add cart 20 0 20", "carrier 0"), ("pass 5", "time 5"))
        self.talk(other, ("where 0", "no carrier"), ("pass 0", "time 0"), ("show", "+..../##.##"))


class TestRefusals(Answering):
    def test_add(self):
        self.talk(
            Hall(["+.#~."]),
            ("add van 20 1 9", "bad kind"), ("add Cart 20 1 9", "bad kind"), ("add carrier 20 1 9", "bad kind"),
            ("add 7 20 1 9", "bad kind"), ("add cart, 20 1 9", "bad kind"), ("add -1 20 1 9", "bad kind"),
            ("add add 20 1 9", "bad kind"), ("add \u0000 20 1 9", "bad kind"), ("add caf\u00e9 20 1 9", "bad kind"),
            ("add cart 0 1 0", "bad charge"), ("add cart 61 1 9", "bad charge"), ("add cart 999999 1 9", "bad charge"),
            ("add cart 20 1 21", "bad charge"), ("add cart 20 2 9", "bad cell"), ("add cart 20 3 9", "bad cell"),
            ("add cart 20 5 9", "bad cell"), ("add cart 20 999999 9", "bad cell"), ("show", "+.#~."),
            ("add cart 20 1 20", "carrier 0"), ("add cart 20 1 20", "taken"), ("add crawler 60 3 60", "carrier 1"),
            ("add van 0 2 61", "bad kind"), ("add cart 0 2 0", "bad charge"), ("add cart 20 2 21", "bad cell"),
            ("add cart 20 1 21", "bad charge"))

    def test_send_and_clear(self):
        for word in ("send", "clear"):
            self.talk(
                Hall(["+.#~.", "###.."]),
                ("add cart 20 1 9", "carrier 0"), ("add cart 20 4 9", "carrier 1"),
                (word + " 2 0", "no carrier"), (word + " 999999 0", "no carrier"), (word + " 2 2", "no carrier"),
                (word + " 0 2", "bad stops"), (word + " 0 3", "bad stops"), (word + " 0 10", "bad stops"),
                (word + " 0 1 1 1 2", "bad stops"), (word + " 1 9", "no reserve"), (word + " 1 0 8", "no reserve"),
                (word + " 1 0", "closed"), (word + " 0 8 0", "closed"), (word + " 0 0", "there at 1"),
                (word + " 0 1", "busy"), (word + " 0 8", "busy"), (word + " 0 2", "bad stops"),
                ("where 0", "at 1 charge 9 busy"), ("where 1", "at 4 charge 9 idle"))

    def test_send_where_one_stands_in_the_way(self):
        self.talk(
            Hall(NICHE),
            ("add cart 20 0 20", "carrier 0"), ("add cart 20 2 9", "carrier 1"), ("send 0 4", "closed"),
            ("where 0", "at 0 charge 20 idle"))

    def test_jammed(self):
        self.talk(
            Hall(NICHE),
            ("add cart 20 2 0", "carrier 0"), ("add cart 20 0 20", "carrier 1"), ("clear 1 4", "jammed 0"),
            ("where 1", "at 0 charge 20 idle"), ("where 0", "at 2 charge 0 idle"))
        self.talk(
            Hall(["+......", "##.#.##"]),
            ("add cart 20 0 20", "carrier 0"), ("add cart 20 4 0", "carrier 1"), ("add cart 20 2 5", "carrier 2"),
            ("clear 0 6", "jammed 1"), ("show", "0.2.1../##.#.##"))

    def test_tasks(self):
        self.talk(
            Hall(NICHE),
            ("task 5 2", "bad cell"), ("task 2 5", "bad cell"), ("task 2 999999", "bad cell"), ("state 0", "no task"),
            ("why 0", "no task"), ("task 2 3", "task 0"), ("state 1", "no task"), ("why 999999", "no task"),
            ("where 0", "no carrier"), ("settle", "time 0 waiting 0"))


class TestNoSuchLine(Answering):
    def unlike(self, *lines):
        hall = Hall(NICHE)
        self.talk(hall, ("add cart 20 0 20", "carrier 0"), ("task 4 4", "task 0"), ("task 1 1", "task 1"))
        before = ("where 0", "show", "state 0", "state 1", "why 1", "pass 0")
        told = [hall.answer(line) for line in before]
        for line in lines:
            self.talk(hall, (line, NO_LINE))
        self.assertEqual([hall.answer(line) for line in before], told)

    def test_other_words(self):
        self.unlike(
            "x", "ADD cart 20 1 9", "Show", "shows", "sho", "add cart 20 1 nine", "send zero 1", "task a b", "pass one",
            "where cart", "0", "0 1", "send, 0 1", "wait 3", "tell 1 2", "time", "answer show", "go_on 1", "#", "/")

    def test_more_or_fewer_words(self):
        self.unlike(
            "add", "add cart", "add cart 20", "add cart 20 1", "add cart 20 1 9 9", "add 20 1 9", "send", "send 0",
            "clear", "clear 0", "send 0 1 1 1 1 1", "clear 0 1 1 1 1 1", "send 0 1 1 1 1 1 1", "task", "task 1",
            "task 1 2 3", "pass", "pass 1 1", "where", "where 0 0", "state", "state 0 0", "why", "why 0 0", "settle 1",
            "settle 0", "show 0", "show show", "settle settle")

    def test_numbers_that_are_not_read(self):
        for number in (
                "-1", "-0", "+1", "01", "00", "000000", "1000000", "0000001", "1.0", "1e2", "0x1", "1_0", "", "1,",
                "\u0661", "\u00b2", "\uff11", "x", "1\t", "\n1", "one", "True", "None"):
            for line in (
                    "add cart N 1 9", "add cart 20 N 9", "add cart 20 1 N", "send N 1", "send 0 N", "send 0 1 1 1 N",
                    "clear N 1", "clear 0 N", "clear 0 N 1", "task N 1", "task 1 N", "pass N", "where N", "state N",
                    "why N"):
                self.unlike(line.replace("N", number))

    def test_a_wrong_number_behind_a_bad_kind(self):
        self.unlike("add van 020 1 9", "add van 20 -1 9", "add van 20 1 x", "add van 20 1", "add van 20 1 9 9")

    def test_ticks_beyond_the_bound(self):
        self.unlike("pass 1001", "pass 1002", "pass 10000", "pass 999999")
        self.talk(Hall(NICHE), ("pass 1000", "time 1000"), ("pass 0", "time 1000"))

    def test_other_blanks(self):
        for line in (
                "add cart 20 1 9", "send 0 1", "clear 0 1", "task 1 2", "pass 1", "where 0", "state 0", "why 0"):
            ways = [line.replace(" ", "  ", 1), " " + line, line + " ", "  " + line, line.replace(" ", "", 1)]
            for blank in "\t\n\r\v\f\u00a0\u2003\u3000\x1c\x85":
                ways += [line.replace(" ", blank), line.replace(" ", blank, 1), blank + line, line + blank]
            self.unlike(*ways)
        for line in ("show", "settle"):
            self.unlike(" " + line, line + " ", line + "\n", "\t" + line, line + "\r\n", line + " \n")

    def test_other_blanks_in_a_kind(self):
        self.unlike(
            "add  20 1 9", "add ca\trt 20 1 9", "add \t 20 1 9", "add cart\t 20 1 9", "add \n 20 1 9", "add\tcart 20 1 9",
            "add ca\u00a0rt 20 1 9", "add  cart 20 1 9", "add ca rt 20 1 9")

    def test_empty(self):
        self.unlike("", " ", "  ", "\n", "\t")

    def test_no_text(self):
        self.unlike(*NO_NUMBERS, 0, 1, ["show"], ("show",), b"show", {"show": 1}, Hall, Hall(NICHE), 10 ** 5000)


class TestFloorLines(Answering):
    def test_told(self):
        for lines in FLOORS:
            self.assertEqual(Hall(lines).floor_lines(), lines)
            self.assertEqual(Hall(lines=lines).floor_lines(), lines)

    def test_told_lists_are_the_askers_own(self):
        hall = Hall(NICHE)
        told = hall.floor_lines()
        told[0] = "#####"
        told.append("x")
        self.assertEqual(hall.floor_lines(), ["+....", "##.##"])
        self.talk(hall, ("show", "+..../##.##"))

    def test_the_lines_handed_in_may_be_changed_later(self):
        lines = list(NICHE)
        hall = Hall(lines)
        lines[0] = "#####"
        lines.pop()
        self.assertEqual(hall.floor_lines(), ["+....", "##.##"])
        self.talk(hall, ("show", "+..../##.##"), ("add cart 20 7 20", "carrier 0"), ("send 0 0", "there at 3"))
        self.assertEqual(lines, ["#####"])

    def test_the_lines_handed_in_are_not_changed(self):
        lines = list(NICHE)
        hall = Hall(lines)
        self.talk(hall, ("add cart 20 7 20", "carrier 0"), ("show", "+..../##0##"))
        self.assertEqual(lines, ["+....", "##.##"])

    def test_carriers_do_not_stand_in_the_floors_lines(self):
        hall = Hall(NICHE)
        self.talk(hall, ("add cart 20 7 20", "carrier 0"))
        self.assertEqual(hall.floor_lines(), ["+....", "##.##"])

    def test_bad_floor(self):
        for lines in NO_NUMBERS + (
                0, "...", ("...",), [""], ["..", "."], ["x"], ["##"], ["." * 11], ["."] * 11, [None], [["."]], [b"."],
                {0: "."}, [".", 1], ["0"], [". "]):
            with self.assertRaises(FloorError) as caught:
                Hall(lines)
            self.assertIs(type(caught.exception), BadFloor)


class TestBeside(Answering):
    def test_answers_are_those_of_the_fleet(self):
        hall = Hall(NICHE)
        fleet = fleet_of(NICHE, ("cart", 20, 0, 20), ("runner", 9, 4, 7))
        self.talk(hall, ("add cart 20 0 20", "carrier 0"), ("add runner 9 4 7", "carrier 1"))
        self.talk(hall, ("send 1 3 2", "there at %d" % fleet.send(1, [3, 2])))
        for tick in range(8):
            for number in (0, 1):
                word = "idle" if fleet.is_idle(number) else "busy"
                told = "at %d charge %d %s" % (fleet.place(number), fleet.charge(number), word)
                self.talk(hall, ("where %d" % number, told))
            fleet.pass_time()
            self.talk(hall, ("pass 1", "time %d" % fleet.time()))


class TestAgainstPlainHalls(Answering):
    def line(self, chance, places):
        cell = chance.randrange(places + 1)
        other = chance.randrange(places)
        number = chance.choice((0, 0, 1, 1, 2, 3))
        line = chance.choice((
            "add cart 20 %d 20" % cell, "add runner 9 %d 4" % cell, "add crawler 20 %d %d" % (cell, other),
            "send %d %d" % (number, other), "send %d %d %d" % (number, cell, other), "clear %d %d" % (number, other),
            "clear %d %d %d" % (number, other, cell), "task %d %d" % (cell, other), "task %d %d" % (other, other),
            "pass %d" % chance.choice((0, 1, 2, 3, 3, 1000, 1001)), "pass 1", "where %d" % number,
            "state %d" % number, "why %d" % number, "why 0", "settle", "show"))
        if chance.randrange(8) > 0:
            return line
        place = chance.randrange(len(line) + 1)
        return line[:place] + chance.choice(" 019-\tx") + line[place + chance.randrange(2):]

    def test_rows_of_lines(self):
        chance = random.Random(21)
        seen = {}
        for lines, again in itertools.product(FLOORS + (NICHE, ["+......", "##.#.##"]), range(12)):
            hall, plain = Hall(lines), PlainHall(lines)
            for row in range(40):
                line = self.line(chance, len(lines) * len(lines[0]))
                answer = plain.answer(line)
                self.talk(hall, (line, answer))
                word = re.sub("[0-9]+", "N", answer)
                seen[word] = seen.get(word, 0) + 1
        for word in list(WORDS.values()) + [
                NO_LINE, "jammed N", "carrier N", "there at N", "there at N turned N", "task N", "time N", "waiting",
                "at N charge N idle", "at N charge N busy", "going N till N", "done N at N", "none", "N closed",
                "time N waiting N", "time N waiting N N"]:
            self.assertGreater(seen.get(word, 0), 0, word)


if __name__ == "__main__":
    unittest.main()
