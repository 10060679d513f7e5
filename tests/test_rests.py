import copy
import unittest

from floorways.carriers import Cart, Crawler, Runner
from floorways.floors import Floor
from floorways.rests import rested
from floorways.seeks import Found, Shut
from floorways.ways import walked
from plain import GREAT, Telling, book_of, held, parts, plain_rested, some_cases


def rest_cases(seed, many):
    return [case[:-1] for case in some_cases(seed, many)]


class TestRested(Telling):
    def ask(self, lines, start, charge, ways=(), number=9, begin=0, carrier=None):
        carrier = Cart(20) if carrier is None else carrier
        return rested(Floor(lines), carrier, book_of(ways), number, begin, start, charge)

    def test_at_once_where_it_stands(self):
        self.found(self.ask(["..."], 1, 5), (0, (1,)), 5)
        self.found(self.ask(["..."], 2, 0, begin=8), (8, (2,)), 0)
        self.found(self.ask(["..."], 1, 5, {0: (0, (0, 3)), 1: (0, (2,))}), (0, (1,)), 5)

    def test_another_one_was_there_ahead_of_it(self):
        self.found(self.ask(["..."], 1, 5, {0: (0, (1, 2))}, begin=1), (1, (1,)), 5)

    def test_another_one_comes_to_its_cell_later(self):
        self.found(self.ask(["..."], 1, 5, {0: (0, (7, 7, 7, 7, 1))}), (0, (1, 0)), 4)
        self.found(self.ask(["..."], 1, 5, {0: (0, (7, 7, 7, 7, 1, 0))}), (0, (1, 2)), 4)
        self.found(self.ask([".."], 1, 5, {0: (9, (1,))}, begin=4), (4, (1, 0)), 4)

    def test_another_one_comes_by_and_it_has_nowhere_else(self):
        # Others come by both of its cells, one behind the other.
        ways = {0: (0, (7, 7, 0, 7)), 1: (0, (8, 8, 8, 1, 8)), 2: (0, (2,))}
        self.found(self.ask(["..."], 0, 5, ways), (0, (0, 0, 1, 0)), 3)

    def test_of_several_cells_of_one_time_the_least(self):
        lines = ["...", "...", "..."]
        self.found(self.ask(lines, 4, 5, {0: (6, (4,))}), (0, (4, 1)), 4)
        self.found(self.ask(lines, 4, 5, {0: (6, (4, 1))}), (0, (4, 3)), 4)
        self.found(self.ask(lines, 4, 5, {0: (6, (4, 1)), 1: (0, (3,))}), (0, (4, 5)), 4)
        self.found(self.ask(lines, 4, 5, {0: (6, (4, 1)), 1: (0, (3,)), 2: (0, (5,))}), (0, (4, 7)), 4)

    def test_the_least_time_comes_ahead_of_a_lesser_cell(self):
        ways = {0: (6, (3,)), 1: (9, (2,))}
        self.found(self.ask(["....."], 3, 5, ways), (0, (3, 4)), 4)

    def test_not_the_cell_with_the_greatest_charge(self):
        told = self.ask(["~.."], 1, 5, {0: (6, (1,))}, carrier=Crawler(20))
        self.found(told, (0, (1, 0)), 2)

    def test_farther_than_a_step(self):
        ways = {0: (5, (3, 2, 1, 0))}
        self.found(self.ask(["....", "##.#"], 0, 9, ways), (0, (0, 1, 2, 6)), 6)

    def test_the_way_by_the_least_nodes(self):
        ways = {0: (20, (0, 1, 2, 5, 4, 3, 6, 7))}
        self.found(self.ask(["...", "...", "..."], 0, 9, ways), (0, (0, 1, 2, 5, 8)), 5)

    def test_waiting_till_others_have_passed(self):
        ways = {0: (0, (3, 2, 1, 0))}
        self.found(self.ask(["....", "#.##"], 1, 0, {0: (0, (3, 2, 6, 6))}), (0, (1,)), 0)
        self.found(self.ask(["....", ".###"], 1, 5, ways), (0, (1, 0, 4)), 3)
        ways = {0: (3, (2, 2, 3)), 1: (4, (1,)), 2: (0, (0,))}
        self.found(self.ask(["....", "##.#"], 6, 0, ways), (0, (6,)), 0)
        ways = {0: (3, (2, 2, 5)), 1: (6, (1,)), 2: (0, (0,))}
        self.found(self.ask(["..."], 1, 5, ways), (0, (1, 1, 1, 1, 1, 2)), 4)

    def test_waiting_for_the_charge(self):
        ways = {0: (9, (0,))}
        self.found(self.ask(["+~"], 0, 0, ways, carrier=Crawler(20)), (0, (0, 0, 0, 0, 1)), 0)

    def test_another_one_stands_at_the_start(self):
        self.found(self.ask(["..."], 1, 5, {0: (0, (1,))}), (0, (1, 0)), 4)

    def test_each_kind_by_its_own_steps(self):
        lines = [".~", ".."]
        ways = {0: (6, (0,))}
        self.found(self.ask(lines, 0, 9, ways, carrier=Crawler(20)), (0, (0, 1)), 6)
        self.found(self.ask(lines, 0, 9, ways, carrier=Cart(20)), (0, (0, 2)), 8)
        self.assertIs(type(self.ask(lines, 0, 9, ways, carrier=Runner(20))), Shut)

    def test_no_rest_at_all(self):
        self.shut(self.ask(["."], 0, 5, {0: (4, (0,))}), 4, {})
        self.shut(self.ask([".#."], 0, 5, {0: (4, (0,))}, begin=2), 4, {})
        self.shut(self.ask([".."], 0, 0, {0: (4, (0,))}), 4, {})
        self.shut(self.ask([".."], 0, 9, {0: (4, (0,)), 1: (7, (1,))}), 7, {})

    def test_no_rest_begun_behind_when_all_others_are_quiet(self):
        self.shut(self.ask(["."], 0, 5, {0: (0, (0,))}, begin=9), 10, {})
        self.shut(self.ask(["..."], 1, 5, {0: (0, (0,)), 1: (0, (1,)), 2: (0, (2,))}, begin=9), 10, {})

    def test_no_rest_for_long(self):
        told = self.ask([".."], 0, 5, {0: (GREAT, (0,)), 1: (GREAT, (1,))})
        self.assertTrue(told.moment == GREAT)
        self.assertEqual(told.layer, {})
        told = self.ask(["..."], 0, 5, {0: (0, (2,)), GREAT: (GREAT, (1, 0, 1))}, number=GREAT + 1)
        self.assertTrue(told.moment == GREAT + 2)
        self.assertEqual(told.layer, {})

    def test_its_own_way_is_left_out(self):
        ways = {0: (0, (1,)), 1: (4, (0,))}
        self.found(self.ask([".."], 1, 5, ways, number=0), (0, (1,)), 5)
        self.found(self.ask([".."], 0, 5, ways, number=1), (0, (0,)), 5)
        self.shut(self.ask([".."], 0, 5, ways, number=2), 4, {})
        self.shut(self.ask(["."], 0, 5, {0: (4, (0,)), 7: (9, (50,))}, number=7), 4, {})

    def test_many_figures(self):
        told = self.ask(["..."], 1, 5, {GREAT: (GREAT, (1,))}, number=GREAT + 1, begin=GREAT - 3)
        self.assertTrue(told.path == (GREAT - 3, (1, 0)))
        self.assertEqual(told.left, 4)

    def test_by_name(self):
        told = rested(floor=Floor([".."]), carrier=Cart(20), book=book_of({0: (3, (0,))}), number=1, begin=2, start=0,
                      charge=4)
        self.found(told, (2, (0, 1)), 3)

    def test_what_is_handed_in_stays(self):
        floor, carrier, book = Floor(["..."]), Cart(20), book_of({0: (0, (2, 2, 1)), 4: (0, (0,))})
        kept = held(book)
        one = rested(floor, carrier, book, 4, 0, 1, 5)
        other = rested(floor, carrier, book, 0, 0, 0, 0)
        self.assertEqual(held(book), kept)
        self.assertEqual((floor.lines, carrier.full), (["..."], 20))
        book.drop(0)
        book.drop(4)
        self.found(one, (0, (1, 0)), 4)
        self.shut(other, 1, {})

    def test_told_again_the_same(self):
        for case in rest_cases(5, 3):
            floor, carrier, ways, *rest = case
            book = book_of(ways)
            one = rested(floor, carrier, book, *rest)
            kept = copy.deepcopy(parts(one))
            if type(one) is Shut:
                one.layer[(0, 0)] = 99
            self.assertEqual(parts(rested(floor, carrier, book, *rest)), kept)

    def test_against_the_words(self):
        kinds = []
        for case in rest_cases(17, 20):
            floor, carrier, ways, *rest = case
            told = rested(floor, carrier, book_of(ways), *rest)
            self.assertEqual(parts(told), plain_rested(*case))
            kinds.append(type(told))
        self.assertGreater(min(kinds.count(Found), kinds.count(Shut)), 30)

    def test_a_way_can_be_gone_and_booked(self):
        for case in rest_cases(29, 12):
            floor, carrier, ways, number, begin, start, charge = case
            book = book_of(ways)
            told = rested(floor, carrier, book, number, begin, start, charge)
            if type(told) is Found:
                self.assertEqual(walked(floor, carrier, told.path, charge)[-1], told.left)
                if book.who(start, begin) in (None, number):
                    book.put(number, told.path)


if __name__ == "__main__":
    unittest.main()
