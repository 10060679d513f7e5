import copy
import unittest

from floorways.books import Book
from floorways.carriers import Cart, Crawler, Runner
from floorways.floors import Floor
from floorways.layers import stops_met
from floorways.seeks import Found, Shut, sought
from floorways.ways import walked
from plain import GREAT, Telling, book_of, held, is_left_alone, parts, plain_sought, some_cases


def leasts(cases):
    """The same cases with some least charge behind each."""
    for index, case in enumerate(cases):
        yield case + ((0, 0, 2, case[1].full - 1)[index % 7 % 4],)


def earliest(floor, carrier, ways, number, begin, start, charge, stops, least, ticks):
    """The least time at which some way of so many ticks at most is there, each way being gone; None where none is."""
    book = book_of(ways)
    ahead = {(stops_met(stops, 0, start), start, charge)}
    for time in range(begin, begin + ticks + 1):
        for met, cell, left in ahead:
            if (met, cell) == (len(stops), stops[-1]) and left >= least and is_left_alone(ways, number, cell, time):
                return time
        behind = set()
        for met, cell, left in ahead:
            moves = [(cell, carrier.stayed(floor.sign(cell), left))]
            moves += [(other, left - cost) for other, cost in carrier.steps(floor, cell)]
            for other, charged in moves:
                if charged >= 0 and book.is_open(number, cell, other, time):
                    behind.add((stops_met(stops, met, other), other, charged))
        ahead = behind
    return None


class TestFoundAndShut(unittest.TestCase):
    def test_found(self):
        found = Found((3, (1, 2)), 7)
        self.assertEqual((found.path, found.left), ((3, (1, 2)), 7))
        found = Found(path=(0, (5,)), left=0)
        self.assertEqual((found.path, found.left), ((0, (5,)), 0))

    def test_shut(self):
        shut = Shut(4, {(0, 1): 5})
        self.assertEqual((shut.moment, shut.layer), (4, {(0, 1): 5}))
        shut = Shut(moment=0, layer={})
        self.assertEqual((shut.moment, shut.layer), (0, {}))

    def test_a_layer_that_is_handed_in_may_be_changed_later(self):
        layer = {(0, 1): 5}
        shut = Shut(4, layer)
        layer.clear()
        self.assertEqual(shut.layer, {(0, 1): 5})
        shut.layer[(0, 2)] = 3
        self.assertEqual(layer, {})


class Seeking(Telling):
    def ask(self, lines, start, charge, stops, ways=(), number=9, begin=0, least=0, carrier=None):
        carrier = Cart(20) if carrier is None else carrier
        return sought(Floor(lines), carrier, book_of(ways), number, begin, start, charge, stops, least)


class TestFound(Seeking):
    def test_one_to_four_stops(self):
        self.found(self.ask(["....."], 0, 10, [3]), (0, (0, 1, 2, 3)), 7)
        self.found(self.ask(["....."], 0, 10, [3, 1]), (0, (0, 1, 2, 3, 2, 1)), 5)
        self.found(self.ask(["....."], 0, 10, [3, 1, 4]), (0, (0, 1, 2, 3, 2, 1, 2, 3, 4)), 2)
        self.found(self.ask(["....."], 0, 10, [1, 0, 2, 1]), (0, (0, 1, 0, 1, 2, 1)), 5)

    def test_more_than_four_stops(self):
        self.found(self.ask([".."], 0, 10, [1, 0, 1, 0, 1, 0]), (0, (0, 1, 0, 1, 0, 1, 0)), 4)

    def test_it_begins_when_told(self):
        self.found(self.ask(["....."], 4, 10, [2], begin=7), (7, (4, 3, 2)), 8)

    def test_start_at_a_stop(self):
        self.found(self.ask(["..."], 1, 5, [1]), (0, (1,)), 5)
        self.found(self.ask(["..."], 1, 0, [1], begin=12), (12, (1,)), 0)
        self.found(self.ask(["..."], 1, 5, [1, 2]), (0, (1, 2)), 4)
        self.found(self.ask(["..."], 1, 5, [2, 1]), (0, (1, 2, 1)), 3)

    def test_alike_stops(self):
        self.found(self.ask(["..."], 1, 5, [1, 1, 1, 1]), (0, (1,)), 5)
        self.found(self.ask(["..."], 0, 5, [2, 2, 1, 1]), (0, (0, 1, 2, 1)), 2)
        self.found(self.ask(["..."], 0, 5, [1, 2, 1]), (0, (0, 1, 2, 1)), 2)
        self.found(self.ask(["..."], 1, 5, [1, 0, 1]), (0, (1, 0, 1)), 3)

    def test_stops_only_in_their_order(self):
        self.found(self.ask(["..."], 0, 9, [2, 1, 0]), (0, (0, 1, 2, 1, 0)), 5)
        self.found(self.ask(["..."], 2, 9, [0, 1]), (0, (2, 1, 0, 1)), 6)

    def test_each_kind_by_its_own_steps(self):
        lines = [".~.", ".|."]
        self.found(self.ask(lines, 0, 9, [2], carrier=Cart(20)), (0, (0, 3, 4, 5, 2)), 5)
        self.found(self.ask(lines, 0, 9, [2], carrier=Crawler(20)), (0, (0, 1, 2)), 5)
        self.found(self.ask(lines, 3, 9, [5], carrier=Runner(20)), (0, (3, 4, 5)), 7)
        lines = [".|.", "..."]
        self.found(self.ask(lines, 0, 9, [3], carrier=Runner(20)), (0, (0, 1, 4, 3)), 5)

    def test_a_charge_just_enough(self):
        self.found(self.ask(["...."], 0, 3, [3]), (0, (0, 1, 2, 3)), 0)
        self.assertIs(type(self.ask(["...."], 0, 2, [3])), Shut)
        self.found(self.ask([".~"], 0, 3, [1], carrier=Crawler(5)), (0, (0, 1)), 0)

    def test_waiting_for_another_one_to_pass(self):
        ways = {0: (0, (2, 2, 2, 3))}
        self.found(self.ask(["...."], 0, 10, [2], ways), (0, (0, 0, 1, 2)), 8)
        ways = {0: (0, (5, 1, 0, 4))}
        self.found(self.ask(["....", "...."], 2, 10, [0], ways), (0, (2, 2, 1, 0)), 8)

    def test_turning_aside_for_one_that_comes_the_other_way(self):
        ways = {0: (0, (3, 2, 1, 0))}
        self.found(self.ask(["....", "#.##"], 0, 10, [3], ways), (0, (0, 1, 5, 1, 2, 3)), 5)

    def test_waiting_on_a_charger(self):
        self.found(self.ask(["+...."], 0, 0, [4]), (0, (0, 0, 0, 1, 2, 3, 4)), 0)
        self.found(self.ask(["+...."], 0, 0, [4], carrier=Crawler(20)), (0, (0, 0, 0, 0, 0, 1, 2, 3, 4)), 0)
        self.found(self.ask(["+...."], 0, 0, [4], carrier=Runner(20)), (0, (0, 0, 0, 1, 2, 3, 4)), 2)
        self.found(self.ask(["..+..."], 0, 3, [5]), (0, (0, 1, 2, 2, 3, 4, 5)), 0)

    def test_a_last_stop_that_another_one_comes_to_later(self):
        ways = {0: (0, (5, 5, 5, 5, 5, 2, 1))}
        self.found(self.ask(["...", "..."], 0, 10, [2], ways), (0, (0, 0, 0, 1, 4, 5, 2)), 6)

    def test_a_stop_on_the_way_that_another_one_comes_to_later(self):
        ways = {0: (0, (5, 5, 5, 5, 5, 2))}
        self.found(self.ask(["...", "..."], 0, 10, [2, 0], ways), (0, (0, 1, 2, 1, 0)), 6)

    def test_another_one_that_leaves_the_last_stop(self):
        ways = {0: (0, (1, 1, 1, 2))}
        self.found(self.ask(["...", "..."], 0, 10, [1], ways), (0, (0, 0, 0, 1)), 9)
        self.found(self.ask(["...", "..."], 1, 10, [1], {0: (0, (4, 1, 4))}), (0, (1, 0, 1)), 8)

    def test_there_already_but_another_one_comes_by(self):
        # It stands on the last stop at the begin, and is there only behind the other one's passing.
        ways = {0: (3, (1, 2))}
        self.found(self.ask(["...", "..."], 1, 10, [1], ways), (0, (1, 0, 0, 0, 1)), 8)

    def test_another_one_stands_at_the_start(self):
        self.found(self.ask(["..."], 1, 5, [2], {0: (0, (1,))}), (0, (1, 2)), 4)
        self.found(self.ask(["..."], 1, 5, [1], {0: (0, (1, 0))}), (0, (1, 1)), 5)

    def test_its_own_way_is_left_out(self):
        ways = {0: (0, (1,)), 3: (0, (4, 4, 4, 4, 2))}
        self.found(self.ask(["..."], 0, 5, [2], {0: (0, (1,))}, number=0), (0, (0, 1, 2)), 3)
        self.found(self.ask(["..."], 0, 5, [2], {0: (9, (2,))}, number=0), (0, (0, 1, 2)), 3)
        self.assertIs(type(self.ask(["..."], 0, 5, [2], ways, number=3)), Shut)
        self.assertIs(type(self.ask(["..."], 0, 5, [2], ways, number=0)), Shut)

    def test_least(self):
        self.found(self.ask(["+...."], 0, 0, [4], least=0), (0, (0, 0, 0, 1, 2, 3, 4)), 0)
        self.found(self.ask(["+...."], 0, 0, [4], least=1), (0, (0, 0, 0, 0, 1, 2, 3, 4)), 2)
        self.found(self.ask(["+...."], 0, 0, [4], least=2), (0, (0, 0, 0, 0, 1, 2, 3, 4)), 2)
        self.found(self.ask(["+...."], 0, 0, [4], least=16), (0, (0,) * 11 + (1, 2, 3, 4)), 16)
        self.assertIs(type(self.ask(["+...."], 0, 0, [4], least=17)), Shut)
        self.found(self.ask(["..."], 0, 5, [2], least=3), (0, (0, 1, 2)), 3)
        self.assertIs(type(self.ask(["..."], 0, 5, [2], least=4)), Shut)

    def test_least_met_on_a_charger_that_is_the_stop(self):
        self.found(self.ask([".+"], 0, 5, [1], least=9), (0, (0, 1, 1, 1, 1)), 10)
        self.found(self.ask([".+"], 1, 5, [1], least=20), (0, (1,) * 9), 20)
        self.assertIs(type(self.ask([".+"], 1, 5, [1], least=21)), Shut)

    def test_least_is_nought_if_left_out(self):
        told = sought(Floor(["..."]), Cart(20), Book(), 0, 0, 0, 2, [2])
        self.found(told, (0, (0, 1, 2)), 0)

    def test_by_name(self):
        told = sought(floor=Floor(["..."]), carrier=Cart(20), book=Book(), number=0, begin=4, start=0, charge=2,
                      stops=[1], least=1)
        self.found(told, (4, (0, 1)), 1)


class TestWhichOfSeveral(Seeking):
    def test_the_least_cell_ahead_of_each(self):
        lines = ["...", "...", "..."]
        self.found(self.ask(lines, 0, 9, [8]), (0, (0, 1, 2, 5, 8)), 5)
        self.found(self.ask(lines, 8, 9, [0]), (0, (8, 5, 2, 1, 0)), 5)
        self.found(self.ask(lines, 6, 9, [2]), (0, (6, 3, 0, 1, 2)), 5)

    def test_told_from_the_end_not_from_the_start(self):
        # It charges behind the first stop, though charging at the start gives lesser cells first.
        self.found(self.ask(["+.", ".#"], 0, 2, [1, 2]), (0, (0, 1, 0, 0, 2)), 1)

    def test_fewer_stops_met_come_ahead_of_a_lesser_cell(self):
        # Two chargers beside the stop: it waits on the one with the greater number, with no stop met yet.
        ways = {0: (0, (4,) * 10 + (1, 4))}
        told = self.ask(["+.+", "#.#"], 2, 9, [1], ways, carrier=Cart(9))
        self.found(told, (0, (2,) * 11 + (1,)), 8)

    def test_the_greatest_charge_comes_ahead_of_a_lesser_cell(self):
        # By the rough cell it would come with less.
        lines = [".~.", "..."]
        told = self.ask(lines, 0, 9, [5], carrier=Crawler(20))
        self.found(told, (0, (0, 3, 4, 5)), 6)
        told = self.ask([".~.", "...", "#.."], 0, 9, [5], carrier=Crawler(20))
        self.found(told, (0, (0, 3, 4, 5)), 6)


class TestShut(Seeking):
    def test_one_that_stays_at_the_last_stop(self):
        layer = {(0, 0): 5, (0, 1): 4}
        self.shut(self.ask(["..."], 0, 5, [2], {0: (0, (2,))}), 1, layer)

    def test_a_stop_on_the_way_at_which_one_stays(self):
        self.shut(self.ask(["..."], 0, 5, [2, 0], {0: (0, (2,))}), 1, {(0, 0): 5, (0, 1): 4})

    def test_one_that_comes_to_the_last_stop_to_stay(self):
        layer = {(0, 0): 5, (0, 1): 4, (1, 1): 2, (1, 0): 1}
        self.shut(self.ask(["..."], 0, 5, [2], {0: (6, (2,))}), 6, layer)

    def test_at_once(self):
        self.shut(self.ask([".#."], 0, 5, [2]), 0, {(0, 0): 5})
        self.shut(self.ask([".#."], 0, 5, [0, 2]), 0, {(1, 0): 5})

    def test_a_charge_that_does_not_reach(self):
        layer = {(0, 0): 2, (0, 1): 1, (0, 2): 0}
        self.shut(self.ask(["...."], 0, 2, [3]), 2, layer)

    def test_a_stop_on_which_it_may_not_stand(self):
        self.shut(self.ask([".~"], 0, 5, [1]), 0, {(0, 0): 5})

    def test_begun_behind_when_all_others_are_quiet(self):
        layer = {(0, 0): 5, (0, 1): 4}
        self.shut(self.ask(["..."], 0, 5, [2], {0: (0, (2,))}, begin=7), 8, layer)
        self.shut(self.ask([".#."], 0, 5, [2], {0: (3, (50, 51))}, begin=7), 7, {(0, 0): 5})

    def test_the_others_quiet_only_later(self):
        layer = {(0, 0): 5, (0, 1): 4}
        self.shut(self.ask(["..."], 0, 5, [2], {0: (0, (2,)), 5: (9, (50,))}), 9, layer)
        self.shut(self.ask(["..."], 0, 5, [2], {0: (0, (2,)), 5: (4, (50, 51, 50))}, begin=3), 6, layer)
        self.shut(self.ask(["..."], 0, 5, [2], {0: (0, (2,) * 8)}), 7, layer)

    def test_its_own_way_is_left_out_of_the_quiet(self):
        layer = {(0, 0): 5, (0, 1): 4}
        ways = {0: (0, (2,)), 5: (9, (50,))}
        self.shut(self.ask(["..."], 0, 5, [2], ways, number=5), 1, layer)

    def test_a_layer_that_stays_for_a_while_and_changes_then(self):
        # The other one stands in the way till 6; the layer is as the next one long ahead of that.
        ways = {0: (0, (1,) * 6 + (4,)), 1: (0, (2,))}
        self.shut(self.ask(["...", "#.#"], 0, 5, [2], ways), 6, {(0, 0): 5, (0, 1): 4})
        ways = {0: (0, (1,) * 6 + (4,)), 1: (0, (3,))}
        self.shut(self.ask(["....", ".###"], 0, 5, [3], ways), 7, {(0, 0): 5, (0, 1): 4, (0, 2): 3})

    def test_nowhere_at_all(self):
        self.shut(self.ask(["..."], 1, 0, [0], {0: (0, (2, 2, 2, 1))}), 3, {})
        self.shut(self.ask(["..."], 1, 0, [0], {0: (0, (2, 2, 2, 1))}, begin=3), 4, {})

    def test_another_one_stands_at_the_start_and_stop(self):
        self.shut(self.ask([".."], 0, 5, [0], {0: (0, (0,))}), 1, {(1, 1): 4})

    def test_a_least_charge_beyond(self):
        layer = {}
        for cell, charge in enumerate((20, 19, 18, 17, 16)):
            layer[(0, cell)] = layer[(1, cell)] = charge
        layer.pop((0, 4))
        self.shut(self.ask(["+...."], 0, 0, [4], least=17), 25, layer)
        self.shut(self.ask(["..."], 0, 5, [1], least=10 ** 30), 2,
                  {(0, 0): 5, (1, 1): 4, (1, 0): 3, (1, 2): 3})

    def test_each_seeking_tells_a_new_layer(self):
        floor, book = Floor(["..."]), book_of({0: (0, (2,))})
        one = sought(floor, Cart(20), book, 1, 0, 0, 5, [2])
        one.layer.clear()
        one.layer[(7, 7)] = 7
        other = sought(floor, Cart(20), book, 1, 0, 0, 5, [2])
        self.shut(other, 1, {(0, 0): 5, (0, 1): 4})
        book.drop(0)
        sought(floor, Cart(20), book, 1, 0, 0, 5, [2])
        self.shut(other, 1, {(0, 0): 5, (0, 1): 4})


class TestManyFigures(Seeking):
    def test_a_begin_and_numbers(self):
        ways = {GREAT: (GREAT, (2, 2, 3)), GREAT + 1: (0, (GREAT,))}
        told = self.ask(["...."], 0, 9, [2], ways, number=GREAT + 2, begin=GREAT)
        self.assertTrue(told.path == (GREAT, (0, 1, 2)))
        self.assertEqual(told.left, 7)
        told = self.ask([".#"], 0, 9, [1], ways, begin=GREAT)
        self.assertTrue(told.moment == GREAT + 2)
        self.assertEqual(told.layer, {(0, 0): 9})

    def test_others_quiet_much_later(self):
        layer = {(0, 0): 5, (0, 1): 4, (1, 1): 2, (1, 0): 1}
        told = self.ask(["..."], 0, 5, [2], {0: (GREAT, (2,))})
        self.assertTrue(told.moment == GREAT)
        self.assertEqual(told.layer, layer)
        told = self.ask(["..."], 0, 5, [2], {0: (GREAT, (50, 2, 2))})
        self.assertTrue(told.moment == GREAT + 2)
        self.assertEqual(told.layer, layer)

    def test_found_long_ahead_of_that(self):
        self.found(self.ask(["..."], 0, 5, [2], {0: (GREAT, (1,))}), (0, (0, 1, 2)), 3)

    def test_a_long_waiting(self):
        told = self.ask(["...", "#.#"], 0, 5, [2], {0: (0, (1,) * 5000 + (4,))})
        self.found(told, (0, (0,) * 5000 + (1, 2)), 3)
        told = self.ask(["...", "#.#"], 2, 5, [0], {0: (5000, (0, 1, 4))})
        self.found(told, (0, (2,) * 5002 + (1, 0)), 3)


class TestWhatIsHandedIn(Seeking):
    def test_it_stays(self):
        ways = {0: (0, (2, 2, 2, 3)), 4: (0, (7,))}
        floor, carrier, book, stops = Floor(["....", "...."]), Cart(20), book_of(ways), [2, 1]
        for number, least in ((1, 0), (0, 0), (4, 0), (1, 99)):
            kept = copy.deepcopy((held(book), stops))
            sought(floor, carrier, book, number, 0, 0, 10, stops, least)
            self.assertEqual((held(book), stops), kept)
            self.assertEqual((floor.lines, carrier.full), (["....", "...."], 20))

    def test_what_is_told_stays_when_it_is_changed_later(self):
        book, stops = book_of({0: (0, (2, 2, 2, 3))}), [2]
        told = sought(Floor(["...."]), Cart(20), book, 1, 0, 0, 10, stops)
        stops[0] = 0
        stops.append(1)
        book.drop(0)
        self.found(told, (0, (0, 0, 1, 2)), 8)

    def test_told_again_the_same(self):
        for case in leasts(some_cases(5, 2)):
            floor, carrier, ways, *rest = case
            book = book_of(ways)
            one = sought(floor, carrier, book, *rest)
            kept = copy.deepcopy(parts(one))
            if type(one) is Shut:
                one.layer.clear()
            other = sought(floor, carrier, book, *rest)
            self.assertIsNot(one, other)
            self.assertEqual(parts(other), kept)


class TestAgainstTheWords(Seeking):
    def test_layer_by_layer(self):
        kinds = []
        for case in leasts(some_cases(17, 12)):
            floor, carrier, ways, *rest = case
            told = sought(floor, carrier, book_of(ways), *rest)
            self.assertEqual(parts(told), plain_sought(*case))
            kinds.append(type(told))
        self.assertGreater(min(kinds.count(Found), kinds.count(Shut)), 50)

    def test_none_is_over_sooner(self):
        for case in leasts(some_cases(23, 4)):
            floor, carrier, ways, *rest = case
            told = sought(floor, carrier, book_of(ways), *rest)
            time = earliest(*case, 90)
            if type(told) is Found:
                self.assertEqual(told.path[0] + len(told.path[1]) - 1, time)
            else:
                self.assertIsNone(time)

    def test_a_way_can_be_gone_and_booked(self):
        for case in leasts(some_cases(29, 8)):
            floor, carrier, ways, number, begin, start, charge, stops, least = case
            book = book_of(ways)
            told = sought(floor, carrier, book, number, begin, start, charge, stops, least)
            if type(told) is Shut:
                continue
            cells = told.path[1]
            self.assertEqual((told.path[0], cells[0], cells[-1]), (begin, start, stops[-1]))
            self.assertEqual(walked(floor, carrier, told.path, charge)[-1], told.left)
            self.assertGreaterEqual(told.left, least)
            met = 0
            for cell in cells:
                met = stops_met(stops, met, cell)
            self.assertEqual(met, len(stops))
            if book.who(start, begin) in (None, number):
                book.put(number, told.path)


if __name__ == "__main__":
    unittest.main()
