"""What the tests of several modules share: books made of dicts, and some of the document's rules, done plainly."""

import itertools
import random
import unittest

from floorways.books import Book
from floorways.carriers import Carrier, Cart, Crawler, Runner
from floorways.errors import FloorError, Meets
from floorways.fleets import Fleet
from floorways.floors import Floor
from floorways.layers import first_layer, next_layer
from floorways.seeks import Found, Shut

CLASSES = (Carrier, Cart, Crawler, Runner)
KINDS = ("cart", "crawler", "runner")
GAINS = {"cart": 2, "crawler": 1, "runner": 3}
GREAT = 10 ** 5000
NO_NUMBERS = (True, False, None, "", "0", 0.0, 1.0, [], [0], (), (0,), {}, {0: 0}, {0}, b"0", object(), int)
FLOORS = (
    ["...", ".+.", "..."],
    ["+~.", "|~|", ".~+"],
    ["..|.+", "~#~#."],
    ["|||", "+.+", "|||"],
    ["+.+", "#.#"],
    ["....."],
    ["+.#"],
    ["."],
    ["+", "|", "~", "."],
)


def book_of(ways):
    book = Book()
    for number, way in dict(ways).items():
        book.put(number, way)
    return book


def held(book):
    return {number: book.way(number) for number in book.numbers()}


def plain_place(way, time):
    begin, cells = way
    if time < begin:
        return None
    return (cells + cells[-1:] * time)[time - begin]


def plain_quiet(ways, number):
    return max([way[0] + len(way[1]) - 1 for other, way in ways.items() if other != number] + [0])


def is_left_alone(ways, number, cell, time):
    """Whether none but this number is at a cell from a time on; behind their last times they all stay."""
    until = max(time, plain_quiet(ways, number))
    others = [way for other, way in ways.items() if other != number]
    return all(plain_place(way, later) != cell for way in others for later in range(time, until + 1))


def plain_tick(floor, kind, full, charge, cell, other):
    """The charge behind a tick from a cell to another or the same one; None where one of that kind can't do it."""
    signs = (floor.sign(cell), floor.sign(other))
    if not all(sign in (".+|~" if kind == "crawler" else ".+|") for sign in signs):
        return None
    if cell == other:
        return min(full, charge + GAINS[kind]) if signs[0] == "+" else charge
    upright = kind == "runner" and floor.row(cell) != floor.row(other)
    if other not in floor.beside(cell) or (upright and "|" not in signs):
        return None
    cost = 2 if upright else 3 if signs[1] == "~" else 1
    return charge - cost if cost <= charge else None


def plain_need(floor, kind, cell):
    """The least charge with which one of that kind comes from a cell to a charger; None where it never does."""
    ahead = {cell: 400}
    for step in floor.cells():
        for place, charge in list(ahead.items()):
            for other in floor.beside(place):
                left = plain_tick(floor, kind, 400, charge, place, other)
                if left is not None and left > ahead.get(other, -1):
                    ahead[other] = left
    return min([400 - ahead[charger] for charger in floor.chargers() if charger in ahead], default=None)


def plain_sought(floor, carrier, ways, number, begin, start, charge, stops, least):
    goal = (len(stops), stops[-1])

    def there(time, layer):
        if layer.get(goal, -1) >= least and is_left_alone(ways, number, stops[-1], time):
            return goal
        return None

    return plain_answer(floor, carrier, ways, number, begin, start, charge, stops, there)


def plain_rested(floor, carrier, ways, number, begin, start, charge):
    def resting(time, layer):
        for cell in floor.cells():
            if (0, cell) in layer and is_left_alone(ways, number, cell, time):
                return (0, cell)
        return None

    return plain_answer(floor, carrier, ways, number, begin, start, charge, [], resting)


def plain_answer(floor, carrier, ways, number, begin, start, charge, stops, there):
    """What a Found or a Shut has, by the words of [13] to [15], layer by layer; there tells a node or None."""
    book = book_of(ways)
    layers = [first_layer(stops, start, charge)]
    while True:
        time, layer = begin + len(layers) - 1, layers[-1]
        node = there(time, layer)
        if node is not None:
            cells = plain_cells(floor, carrier, book, number, begin, stops, layers, node)
            return (Found, (begin, cells), layer[node])
        layers.append(next_layer(floor, carrier, book, number, stops, time, layer))
        if time >= plain_quiet(ways, number) and layer == layers[-1]:
            return (Shut, time, layer)


def plain_cells(floor, carrier, book, number, begin, stops, layers, node):
    cells = [node[1]]
    for index in range(len(layers) - 1, 0, -1):
        ahead = []
        for other, charge in layers[index - 1].items():
            behind = next_layer(floor, carrier, book, number, stops, begin + index - 1, {other: charge})
            if behind.get(node) == layers[index][node]:
                ahead.append(other)
        node = min(ahead)
        cells.insert(0, node[1])
    return tuple(cells)


def parts(told):
    if type(told) is Found:
        return (Found, told.path, told.left)
    return (Shut, told.moment, told.layer)


def some_ways(chance, floor, many):
    """Ways of others that do not meet, some of which begin later or stand still for a while."""
    ways = {}
    for number in range(many):
        cells = [chance.choice(floor.cells())]
        for tick in range(chance.randrange(9)):
            near = floor.beside(cells[-1]) + [cells[-1]]
            cells += [chance.choice(near)] * chance.choice((1, 1, 1, 2, 9))
        way = (chance.choice((0, 0, 1, 3, 20)), tuple(cells))
        try:
            book_of({**ways, number: way})
            ways[number] = way
        except Meets:
            pass
    return ways


def some_cases(seed, many):
    """Tuples of a floor, a carrier, ways, a number, a begin, a start, a charge and stops, for each floor and kind."""
    chance = random.Random(seed)
    for lines, made in itertools.product(FLOORS, CLASSES):
        floor = Floor(lines)
        carrier = made(chance.choice((4, 9, 20)))
        standing = [cell for cell in floor.cells() if carrier.may_stand(floor.sign(cell))]
        for again in range(many):
            ways = some_ways(chance, floor, again % 5)
            begin, charge = chance.choice((0, 0, 2, 30)), chance.randrange(carrier.full + 1)
            stops = [chance.choice(standing) for stop in range(chance.choice((1, 1, 2, 3, 4)))]
            yield (floor, carrier, ways, again % 3, begin, chance.choice(standing), charge, stops)


def fleet_of(lines, *rows):
    """A fleet with a carrier for each row: a kind, a full charge, a cell and a charge."""
    fleet = Fleet(Floor(lines))
    for row in rows:
        fleet.add(*row)
    return fleet


def picture(fleet):
    """All that a fleet tells of itself."""
    rows = []
    for number in fleet.numbers():
        carrier = fleet.carrier(number)
        rows.append((
            number, carrier.kind(), carrier.full, fleet.place(number), fleet.charge(number), fleet.way(number),
            fleet.is_idle(number)))
    return (fleet.time(), rows, held(fleet.book()))


class Telling(unittest.TestCase):
    def refused(self, error, call, *given):
        """Tells the refusal, which is of just this class."""
        with self.assertRaises(FloorError) as caught:
            call(*given)
        self.assertIs(type(caught.exception), error)
        return caught.exception

    def found(self, told, path, left):
        self.assertIs(type(told), Found)
        self.assertEqual((told.path, told.left), (path, left))
        self.assertEqual((type(told.path), type(told.path[1])), (tuple, tuple))

    def shut(self, told, moment, layer):
        self.assertIs(type(told), Shut)
        self.assertEqual((told.moment, told.layer), (moment, layer))
        self.assertIs(type(told.layer), dict)
