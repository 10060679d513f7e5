import copy
import itertools
import unittest

from floorways.books import Book
from floorways.carriers import Carrier, Cart, Crawler, Runner
from floorways.floors import Floor
from floorways.layers import first_layer, next_layer, stops_met
from plain import CLASSES, GREAT, book_of, plain_place, some_cases


def plain_moves(floor, made, full, cell, charge):
    """Pairs of a cell and a charge, a tick later, on a floor without others, by the words of [5] and [6]."""
    gains = {Carrier: 2, Cart: 2, Crawler: 1, Runner: 3}
    gain = gains[made] if floor.sign(cell) == "+" else 0
    pairs = [(cell, min(full, charge + gain))]
    for other in floor.beside(cell):
        cost = 1
        if made is Crawler and floor.sign(other) == "~":
            cost = 3
        if made is Runner and floor.row(cell) != floor.row(other):
            cost = 2
            if "|" not in (floor.sign(cell), floor.sign(other)):
                continue
        if floor.sign(other) == "~" and made is not Crawler:
            continue
        if cost <= charge:
            pairs.append((other, charge - cost))
    return pairs


def plain_states(floor, made, full, ways, number, stops, time, states):
    """All that it can be a tick later: triples of the stops met, the cell and the charge, with every charge kept."""
    behind = set()
    for many, cell, charge in states:
        for other, left in plain_moves(floor, made, full, cell, charge):
            free = True
            for another, way in ways.items():
                before, after = plain_place(way, time), plain_place(way, time + 1)
                if another != number and (after == other or (before, after) == (other, cell)):
                    free = False
            if free:
                met = many
                while met < len(stops) and stops[met] == other:
                    met += 1
                behind.add((met, other, left))
    return behind


def layer_of(states):
    layer = {}
    for many, cell, charge in states:
        layer[(many, cell)] = max(charge, layer.get((many, cell), 0))
    return layer


class TestStopsMet(unittest.TestCase):
    def test_no_stops(self):
        self.assertEqual(stops_met([], 0, 5), 0)

    def test_one_stop(self):
        self.assertEqual(stops_met([5], 0, 5), 1)
        self.assertEqual(stops_met([5], 0, 4), 0)
        self.assertEqual(stops_met([5], 1, 5), 1)
        self.assertEqual(stops_met([5], 1, 4), 1)

    def test_several_stops(self):
        stops = [5, 3, 0, 8]
        for many, cell in itertools.product(range(5), range(10)):
            met = many + 1 if many < 4 and stops[many] == cell else many
            self.assertEqual(stops_met(stops, many, cell), met)

    def test_alike_ones_that_follow_one_another(self):
        self.assertEqual(stops_met([5, 5], 0, 5), 2)
        self.assertEqual(stops_met([5, 5, 5, 5], 0, 5), 4)
        self.assertEqual(stops_met([5, 5, 5, 5], 3, 5), 4)
        self.assertEqual(stops_met([3, 5, 5, 2], 1, 5), 3)
        self.assertEqual(stops_met([3, 5, 5, 2], 0, 5), 0)
        self.assertEqual(stops_met([3, 5, 5, 2], 2, 5), 3)

    def test_alike_ones_with_another_between(self):
        self.assertEqual(stops_met([5, 3, 5], 0, 5), 1)
        self.assertEqual(stops_met([5, 3, 5], 1, 5), 1)
        self.assertEqual(stops_met([5, 3, 5], 1, 3), 2)
        self.assertEqual(stops_met([5, 3, 5], 2, 5), 3)

    def test_only_in_their_order(self):
        self.assertEqual(stops_met([5, 3], 0, 3), 0)
        self.assertEqual(stops_met([5, 3], 1, 5), 1)

    def test_all_met_ahead(self):
        for stops in ([], [5], [5, 5], [5, 3, 5], [1, 2, 3, 4]):
            for cell in range(6):
                self.assertEqual(stops_met(stops, len(stops), cell), len(stops))

    def test_the_cell_of_nought(self):
        self.assertEqual(stops_met([0, 0, 1], 0, 0), 2)
        self.assertEqual(stops_met([1, 0], 0, 0), 0)

    def test_more_than_four(self):
        self.assertEqual(stops_met([7] * 9, 2, 7), 9)

    def test_by_name_and_the_stops_stay(self):
        stops = [5, 5, 3]
        self.assertEqual(stops_met(stops=stops, many=0, cell=5), 2)
        self.assertEqual(stops, [5, 5, 3])


class TestFirstLayer(unittest.TestCase):
    def test_no_stops(self):
        self.assertEqual(first_layer([], 4, 7), {(0, 4): 7})

    def test_a_start_that_is_no_stop(self):
        self.assertEqual(first_layer([5], 4, 7), {(0, 4): 7})
        self.assertEqual(first_layer([5, 4], 4, 7), {(0, 4): 7})

    def test_a_start_that_is_one_or_several(self):
        self.assertEqual(first_layer([4], 4, 7), {(1, 4): 7})
        self.assertEqual(first_layer([4, 4], 4, 7), {(2, 4): 7})
        self.assertEqual(first_layer([4, 5, 4], 4, 7), {(1, 4): 7})
        self.assertEqual(first_layer([4, 4, 4, 5], 4, 7), {(3, 4): 7})
        self.assertEqual(first_layer([0], 0, 7), {(1, 0): 7})

    def test_each_charge(self):
        for charge in range(61):
            self.assertEqual(first_layer([1], 0, charge), {(0, 0): charge})

    def test_by_name_new_and_the_stops_stay(self):
        stops = [4, 5]
        told = first_layer(stops=stops, start=4, charge=3)
        self.assertIs(type(told), dict)
        self.assertEqual([type(node) for node in told], [tuple])
        told[(9, 9)] = 9
        self.assertEqual(first_layer(stops, 4, 3), {(1, 4): 3})
        self.assertEqual(stops, [4, 5])


class TestNextLayer(unittest.TestCase):
    cross = Floor([".|.", "|+~", "..."])

    def behind(self, lines, carrier, layer, ways=(), number=9, stops=(), time=0):
        return next_layer(Floor(lines), carrier, book_of(ways), number, list(stops), time, layer)

    def test_each_kind(self):
        cases = (
            (Carrier, {(0, 4): 12, (0, 1): 9, (0, 3): 9, (0, 7): 9}),
            (Cart, {(0, 4): 12, (0, 1): 9, (0, 3): 9, (0, 7): 9}),
            (Crawler, {(0, 4): 11, (0, 1): 9, (0, 3): 9, (0, 5): 7, (0, 7): 9}),
            (Runner, {(0, 4): 13, (0, 1): 8, (0, 3): 9}),
        )
        for made, expected in cases:
            with self.subTest(made=made):
                self.assertEqual(next_layer(self.cross, made(20), Book(), 0, [], 0, {(0, 4): 10}), expected)

    def test_staying_on_each_sign(self):
        for sign, charges in ((".", (5, 5, 5, 5)), ("|", (5, 5, 5, 5)), ("+", (7, 7, 6, 8))):
            for made, charge in zip(CLASSES, charges, strict=True):
                self.assertEqual(self.behind([sign], made(20), {(0, 0): 5}), {(0, 0): charge})
        self.assertEqual(self.behind(["~"], Crawler(20), {(0, 0): 5}), {(0, 0): 5})

    def test_a_charger_gives_up_to_full(self):
        for made, gain in ((Cart, 2), (Crawler, 1), (Runner, 3)):
            for charge in range(11):
                told = self.behind(["+"], made(10), {(0, 0): charge})
                self.assertEqual(told, {(0, 0): min(10, charge + gain)})

    def test_a_step_just_affordable(self):
        self.assertEqual(self.behind([".."], Cart(5), {(0, 0): 1}), {(0, 0): 1, (0, 1): 0})
        self.assertEqual(self.behind([".."], Cart(5), {(0, 0): 0}), {(0, 0): 0})
        self.assertEqual(self.behind([".~"], Crawler(5), {(0, 0): 3}), {(0, 0): 3, (0, 1): 0})
        self.assertEqual(self.behind([".~"], Crawler(5), {(0, 0): 2}), {(0, 0): 2})
        self.assertEqual(self.behind([".", "|"], Runner(5), {(0, 0): 2}), {(0, 0): 2, (0, 1): 0})
        self.assertEqual(self.behind([".", "|"], Runner(5), {(0, 0): 1}), {(0, 0): 1})

    def test_what_the_charger_gives_comes_too_late_for_the_step(self):
        self.assertEqual(self.behind(["+."], Cart(5), {(0, 0): 0}), {(0, 0): 2})

    def test_walls_and_rough_cells(self):
        self.assertEqual(self.behind([".#."], Cart(5), {(0, 0): 5}), {(0, 0): 5})
        self.assertEqual(self.behind([".~."], Cart(5), {(0, 0): 5}), {(0, 0): 5})
        self.assertEqual(self.behind([".", "."], Runner(5), {(0, 0): 5}), {(0, 0): 5})

    def test_another_one_a_tick_later(self):
        ways = {0: (0, (5, 2, 2))}
        self.assertEqual(self.behind(["..."], Cart(5), {(0, 1): 3}, ways), {(0, 1): 3, (0, 0): 2})
        self.assertEqual(self.behind(["..."], Cart(5), {(0, 1): 3}, ways, time=7), {(0, 1): 3, (0, 0): 2})

    def test_another_one_that_leaves(self):
        ways = {0: (0, (2, 5))}
        self.assertEqual(self.behind(["..."], Cart(5), {(0, 1): 3}, ways), {(0, 1): 3, (0, 0): 2, (0, 2): 2})

    def test_another_one_that_comes_to_its_cell(self):
        ways = {0: (0, (7, 1))}
        self.assertEqual(self.behind(["..."], Cart(5), {(0, 1): 3}, ways), {(0, 0): 2, (0, 2): 2})
        self.assertEqual(self.behind(["..."], Cart(5), {(0, 1): 0}, ways), {})

    def test_another_one_that_stands_at_its_cell(self):
        ways = {0: (0, (1,))}
        self.assertEqual(self.behind(["..."], Cart(5), {(0, 1): 3}, ways), {(0, 0): 2, (0, 2): 2})

    def test_another_one_that_comes_the_other_way(self):
        ways = {0: (0, (2, 1))}
        self.assertEqual(self.behind(["..."], Cart(5), {(0, 1): 3}, ways), {(0, 0): 2})
        # It goes the same way, ahead of it.
        ways = {0: (0, (2, 3))}
        self.assertEqual(self.behind(["...."], Cart(5), {(0, 1): 3}, ways), {(0, 0): 2, (0, 1): 3, (0, 2): 2})

    def test_another_one_that_begins_later(self):
        ways = {0: (4, (2,))}
        told = [self.behind(["..."], Cart(5), {(0, 1): 3}, ways, time=time) for time in (2, 3, 4)]
        self.assertEqual([(0, 2) in layer for layer in told], [True, False, False])

    def test_its_own_way_is_left_out(self):
        ways = {0: (0, (1,)), 1: (0, (2,))}
        self.assertEqual(self.behind(["..."], Cart(5), {(0, 1): 3}, ways, number=0), {(0, 0): 2, (0, 1): 3})
        self.assertEqual(self.behind(["..."], Cart(5), {(0, 1): 3}, ways, number=1), {(0, 0): 2, (0, 2): 2})
        self.assertEqual(self.behind(["..."], Cart(5), {(0, 1): 3}, ways, number=2), {(0, 0): 2})

    def test_two_nodes_that_come_to_one(self):
        for layer in ({(0, 0): 9, (0, 2): 4}, {(0, 2): 4, (0, 0): 9}, {(0, 0): 4, (0, 2): 9}):
            self.assertEqual(self.behind(["..."], Cart(9), layer), {**layer, (0, 1): 8})
        self.assertEqual(self.behind([".."], Cart(9), {(0, 0): 9, (0, 1): 3}), {(0, 0): 9, (0, 1): 8})
        self.assertEqual(self.behind([".."], Cart(9), {(0, 0): 9, (0, 1): 8}), {(0, 0): 9, (0, 1): 8})
        self.assertEqual(self.behind([".."], Cart(9), {(0, 0): 9, (0, 1): 9}), {(0, 0): 9, (0, 1): 9})

    def test_nodes_of_unlike_stops_stay_apart(self):
        told = self.behind(["..."], Cart(9), {(0, 1): 3, (1, 1): 7}, stops=[5, 5])
        self.assertEqual(told, {(0, 0): 2, (0, 1): 3, (0, 2): 2, (1, 0): 6, (1, 1): 7, (1, 2): 6})

    def test_stops_met_by_going(self):
        self.assertEqual(self.behind(["..."], Cart(9), {(0, 1): 3}, stops=[2]), {(0, 0): 2, (0, 1): 3, (1, 2): 2})
        self.assertEqual(self.behind([".."], Cart(9), {(0, 0): 3}, stops=[1, 1, 0]), {(0, 0): 3, (2, 1): 2})
        self.assertEqual(self.behind([".."], Cart(9), {(2, 1): 3}, stops=[1, 1, 0]), {(2, 1): 3, (3, 0): 2})
        self.assertEqual(self.behind([".."], Cart(9), {(1, 1): 3}, stops=[1]), {(1, 1): 3, (1, 0): 2})

    def test_stops_met_by_staying(self):
        self.assertEqual(self.behind(["."], Cart(9), {(0, 0): 3}, stops=[0]), {(1, 0): 3})
        self.assertEqual(self.behind(["."], Cart(9), {(1, 0): 3}, stops=[5, 0, 0]), {(3, 0): 3})
        self.assertEqual(self.behind(["+"], Cart(9), {(0, 0): 3, (1, 0): 4}, stops=[0]), {(1, 0): 6})

    def test_two_nodes_that_meet_the_same_stop(self):
        told = self.behind(["..."], Cart(9), {(0, 0): 5, (1, 1): 2}, stops=[1])
        self.assertEqual(told, {(0, 0): 5, (1, 1): 4, (1, 0): 1, (1, 2): 1})

    def test_an_empty_layer(self):
        self.assertEqual(self.behind(["..."], Cart(9), {}), {})
        self.assertEqual(self.behind(["..."], Cart(9), {}, {0: (0, (1,))}, stops=[2]), {})

    def test_more_than_four_stops(self):
        told = self.behind([".."], Cart(9), {(4, 0): 3}, stops=[0, 1, 0, 1, 1, 1, 0])
        self.assertEqual(told, {(4, 0): 3, (6, 1): 2})

    def test_many_figures(self):
        book = book_of({GREAT: (GREAT, (2, 1)), GREAT + 1: (0, (GREAT,))})
        told = [next_layer(Floor(["..."]), Cart(9), book, 0, [], time, {(0, 1): 3})
                for time in (GREAT - 2, GREAT - 1, GREAT, GREAT + 1)]
        self.assertEqual(told[0], {(0, 0): 2, (0, 1): 3, (0, 2): 2})
        self.assertEqual(told[1], {(0, 0): 2, (0, 1): 3})
        self.assertEqual(told[2], {(0, 0): 2})
        self.assertEqual(told[3], {(0, 0): 2, (0, 2): 2})
        own = next_layer(Floor(["..."]), Cart(9), book, GREAT, [], GREAT, {(0, 1): 3})
        self.assertEqual(own, {(0, 0): 2, (0, 1): 3, (0, 2): 2})

    def test_by_name(self):
        told = next_layer(floor=Floor([".."]), carrier=Cart(9), book=Book(), number=0, stops=[1], time=0,
                          layer={(0, 0): 3})
        self.assertEqual(told, {(0, 0): 3, (1, 1): 2})

    def test_what_is_handed_in_stays_and_what_is_told_is_new(self):
        floor, carrier, book = Floor(["..+"]), Cart(9), book_of({0: (0, (0, 1)), 9: (0, (2,))})
        layer, stops = {(0, 2): 3, (1, 1): 4}, [1, 2]
        before = copy.deepcopy((layer, stops, book.way(0), book.way(9)))
        told = next_layer(floor, carrier, book, 9, stops, 1, layer)
        expected = {(0, 2): 5, (2, 2): 3, (1, 0): 3}
        self.assertIs(type(told), dict)
        self.assertEqual(told, expected)
        self.assertEqual((layer, stops, book.way(0), book.way(9)), before)
        self.assertEqual((book.numbers(), floor.lines, carrier.full), ([0, 9], ["..+"], 9))
        told.clear()
        again = next_layer(floor, carrier, book, 9, stops, 1, layer)
        self.assertEqual(again, expected)
        layer.clear()
        stops.clear()
        book.drop(0)
        self.assertEqual(again, expected)

    def test_a_layer_that_stays_as_it_is_is_told_anew(self):
        layer = {(0, 0): 3}
        told = next_layer(Floor(["."]), Cart(9), Book(), 0, [], 0, layer)
        self.assertEqual(told, layer)
        self.assertIsNot(told, layer)

    def test_layer_by_layer_against_all_that_it_can_do(self):
        for floor, carrier, ways, number, begin, start, charge, stops in some_cases(11, 6):
            book = book_of(ways)
            layer = first_layer(stops, start, charge)
            states = {(stops_met(stops, 0, start), start, charge)}
            for time in range(begin, begin + 12):
                layer = next_layer(floor, carrier, book, number, stops, time, layer)
                states = plain_states(floor, type(carrier), carrier.full, ways, number, stops, time, states)
                self.assertEqual(layer, layer_of(states))


if __name__ == "__main__":
    unittest.main()
