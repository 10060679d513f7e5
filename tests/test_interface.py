"""Every name of the document's interface is there, with its arguments and defaults."""

import importlib
import inspect
import unittest

FUNCTIONS = {
    "words": ("is_whole(thing)", "is_among(thing, least, most)", "number_text(number)", "number_of(text)"),
    "carriers": ("carrier_of(kind, full=20)",),
    "costs": ("costs_to(floor, carrier, goals)", "needs_of(floor, carrier)", "cheapest(floor, carrier, cell, goals)"),
    "ways": (
        "place_at(way, time)", "last_time(way)", "way_later(way, time)", "first_meeting(one, other)",
        "walked(floor, carrier, way, charge)"),
    "meets": ("meetings(ways)",),
    "layers": (
        "stops_met(stops, many, cell)", "first_layer(stops, start, charge)",
        "next_layer(floor, carrier, book, number, stops, time, layer)"),
    "seeks": ("sought(floor, carrier, book, number, begin, start, charge, stops, least=0)",),
    "rests": ("rested(floor, carrier, book, number, begin, start, charge)",),
    "turns": ("cleared(fleet, number, stops)",),
}
CARRIER = (
    "kind()", "may_stand(sign)", "cost(floor, cell, other)", "gain(sign)", "steps(floor, cell)", "stayed(sign, charge)")
CLASSES = {
    "errors": {"Meets(other)": (), "Closed(shut)": (), "Jammed(other)": ()},
    "heaps": {"Heap()": ("put(thing)", "least()", "take()", "size()", "lying()")},
    "floors": {
        "Floor(lines)": (
            "has(cell)", "sign(cell)", "column(cell)", "row(cell)", "cells()", "chargers()", "beside(cell)")},
    "carriers": {"Carrier(full)": CARRIER, "Cart(full)": CARRIER, "Crawler(full)": CARRIER, "Runner(full)": CARRIER},
    "books": {
        "Book()": (
            "put(number, way)", "drop(number)", "way(number)", "numbers()", "copied()", "who(cell, time)",
            "is_open(number, cell, other, time)", "quiet(number)", "free_from(number, cell)")},
    "seeks": {"Found(path, left)": (), "Shut(moment, layer)": ()},
    "fleets": {
        "Fleet(floor)": (
            "time()", "add(kind, full, cell, charge)", "numbers()", "carrier(number)", "place(number)",
            "charge(number)", "way(number)", "is_idle(number)", "book()", "sees(number, stops, least=None)",
            "send(number, stops, least=None)", "pass_time(ticks=1)")},
    "tasks": {
        "Desk(fleet)": ("tell(begin, goal)", "state(task)", "tasks()", "why(task)", "go_on(ticks=1)", "settle()")},
    "halls": {"Hall(lines)": ("answer(line)", "floor_lines()")},
}


def found(holder, written):
    return getattr(holder, written.partition("(")[0])


class TestInterface(unittest.TestCase):
    def same(self, thing, written, skip=0):
        told = list(inspect.signature(thing).parameters.values())[skip:]
        self.assertEqual(written, "%s(%s)" % (written.partition("(")[0], ", ".join(str(one) for one in told)))

    def test_functions(self):
        for name, rows in FUNCTIONS.items():
            module = importlib.import_module("floorways." + name)
            for written in rows:
                self.same(found(module, written), written)

    def test_classes(self):
        for name, made in CLASSES.items():
            module = importlib.import_module("floorways." + name)
            for written, methods in made.items():
                self.same(found(module, written), written)
                for method in methods:
                    self.same(found(found(module, written), method), method, 1)


if __name__ == "__main__":
    unittest.main()
