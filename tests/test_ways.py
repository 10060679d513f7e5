import itertools
import unittest

from floorways.carriers import Carrier, Cart, Crawler, Runner
from floorways.errors import BadWay, FloorError
from floorways.floors import Floor
from floorways.ways import first_meeting, last_time, place_at, stays_till, walked, way_later

CLASSES = (Carrier, Cart, Crawler, Runner)
GREAT = 10 ** 5000


def plain_place(way, time):
    """Where a way is, tick by tick, by the words of the document."""
    begin, cells = way
    if time < begin:
        return None
    now = begin
    for cell in cells:
        if now == time:
            return cell
        now += 1
    return cells[-1]


def plain_meeting(one, other, until):
    for time in range(until + 1):
        here, there = plain_place(one, time), plain_place(other, time)
        if here is None or there is None:
            continue
        if here == there:
            return (time, "at")
        if (plain_place(one, time + 1), plain_place(other, time + 1)) == (there, here):
            return (time, "through")
    return None


def small_ways(begins, places, longest):
    return [
        (begin, cells) for begin in begins for many in range(1, longest + 1)
        for cells in itertools.product(range(places), repeat=many)
    ]


class TestPlaceAt(unittest.TestCase):
    way = (3, (5, 6, 6, 2))

    def test_ahead_of_begin(self):
        for time in (0, 1, 2):
            self.assertIsNone(place_at(self.way, time))

    def test_at_each_time(self):
        self.assertEqual([place_at(self.way, time) for time in (3, 4, 5, 6)], [5, 6, 6, 2])

    def test_behind_its_end(self):
        for time in (7, 8, 100, 10 ** 30, GREAT):
            self.assertEqual(place_at(self.way, time), 2)

    def test_one_place(self):
        self.assertEqual([place_at((0, (9,)), time) for time in (0, 1, 50)], [9, 9, 9])
        self.assertEqual([place_at((1, (0,)), time) for time in (0, 1, 2)], [None, 0, 0])

    def test_many_figures(self):
        way = (GREAT, (GREAT, GREAT + 1, 0))
        self.assertIsNone(place_at(way, 0))
        self.assertIsNone(place_at(way, GREAT - 1))
        times = [place_at(way, GREAT + tick) == expected for tick, expected in enumerate((GREAT, GREAT + 1, 0, 0))]
        self.assertEqual(times, [True] * 4)
        self.assertEqual(place_at(way, 2 * GREAT), 0)

    def test_against_the_words(self):
        for way in small_ways((0, 1, 3), 2, 3):
            for time in range(9):
                self.assertEqual(place_at(way, time), plain_place(way, time))
                self.assertEqual(place_at(way=way, time=time), plain_place(way, time))


class TestLastTime(unittest.TestCase):
    def test_last_time(self):
        self.assertEqual(last_time((0, (4,))), 0)
        self.assertEqual(last_time((7, (4,))), 7)
        self.assertEqual(last_time((7, (4, 4, 4))), 9)
        self.assertEqual(last_time(way=(0, (1, 2, 3, 2, 1))), 4)
        self.assertTrue(last_time((GREAT, (1, 2))) == GREAT + 1)


class TestWayLater(unittest.TestCase):
    way = (3, (5, 6, 6, 2))

    def test_at_begin(self):
        self.assertEqual(way_later(self.way, 3), self.way)

    def test_within(self):
        self.assertEqual(way_later(self.way, 4), (4, (6, 6, 2)))
        self.assertEqual(way_later(self.way, 5), (5, (6, 2)))

    def test_at_the_last_time_and_behind_it(self):
        self.assertEqual(way_later(self.way, 6), (6, (2,)))
        for time in (7, 8, 1000, 10 ** 30):
            self.assertEqual(way_later(self.way, time), (time, (2,)))
        self.assertTrue(way_later(self.way, GREAT) == (GREAT, (2,)))

    def test_one_place(self):
        self.assertEqual(way_later((0, (8,)), 0), (0, (8,)))
        self.assertEqual(way_later((0, (8,)), 5), (5, (8,)))

    def test_many_figures(self):
        way = (GREAT, (GREAT, 1, 2))
        self.assertTrue(way_later(way, GREAT) == way)
        self.assertTrue(way_later(way, GREAT + 1) == (GREAT + 1, (1, 2)))
        self.assertTrue(way_later(way, GREAT + 9) == (GREAT + 9, (2,)))

    def test_kinds(self):
        for time in (3, 4, 6, 9):
            told = way_later(way=self.way, time=time)
            self.assertIs(type(told), tuple)
            self.assertIs(type(told[1]), tuple)

    def test_it_is_where_the_way_is(self):
        for way in small_ways((0, 2), 2, 3):
            for time in range(way[0], way[0] + 6):
                later = way_later(way, time)
                self.assertEqual(later[0], time)
                self.assertEqual(len(later[1]), max(1, way[0] + len(way[1]) - time))
                for then in range(12):
                    self.assertEqual(place_at(later, then), plain_place(way, then) if then >= time else None)


class TestStaysTill(unittest.TestCase):
    def test_against_the_words(self):
        for way in small_ways((0, 2), 2, 4):
            for time in range(8):
                for end in range(time, 9):
                    stayed = time
                    while stayed < end and plain_place(way, stayed + 1) == plain_place(way, time):
                        stayed += 1
                    self.assertEqual(stays_till(way, time, end), stayed)

    def test_many_figures(self):
        self.assertTrue(stays_till((GREAT, (1, 2)), 0, 2 * GREAT) == GREAT - 1)
        self.assertTrue(stays_till((GREAT, (1, 1, 2)), GREAT, 2 * GREAT) == GREAT + 1)
        self.assertTrue(stays_till((0, (1, 2)), 1, GREAT) == GREAT)


class TestFirstMeeting(unittest.TestCase):
    def both(self, one, other):
        told = first_meeting(one, other)
        self.assertEqual(first_meeting(other, one), told)
        self.assertEqual(first_meeting(one=one, other=other), told)
        return told

    def test_none(self):
        self.assertIsNone(self.both((0, (1, 2, 3)), (0, (5, 6, 7))))
        self.assertIsNone(self.both((0, (1,)), (0, (2,))))
        self.assertIsNone(self.both((0, (1, 2, 3)), (0, (0, 1, 2))))

    def test_at(self):
        self.assertEqual(self.both((0, (1,)), (0, (1,))), (0, "at"))
        self.assertEqual(self.both((0, (1, 2, 3)), (0, (5, 4, 3))), (2, "at"))
        self.assertEqual(self.both((2, (1, 2, 3)), (2, (3, 2, 1))), (3, "at"))

    def test_through(self):
        self.assertEqual(self.both((0, (1, 2)), (0, (2, 1))), (0, "through"))
        self.assertEqual(self.both((4, (0, 1, 2, 3)), (4, (3, 2, 1, 0))), (5, "through"))

    def test_one_that_only_follows_is_not_met(self):
        self.assertIsNone(self.both((0, (1, 2, 3, 4)), (0, (0, 1, 2, 3))))
        self.assertIsNone(self.both((0, (1, 2, 3, 1)), (0, (2, 3, 1, 2))))

    def test_the_first_of_several(self):
        self.assertEqual(self.both((0, (0, 1, 0, 1)), (0, (1, 0, 0, 1))), (0, "through"))
        self.assertEqual(self.both((0, (0, 1, 2, 1)), (0, (3, 1, 1, 2))), (1, "at"))
        self.assertEqual(self.both((0, (4, 4, 4)), (0, (3, 4, 3))), (1, "at"))

    def test_unlike_begins(self):
        self.assertIsNone(self.both((0, (1, 2, 3)), (1, (1,))))
        self.assertEqual(self.both((0, (1, 2, 3)), (1, (2,))), (1, "at"))
        self.assertEqual(self.both((0, (9, 1, 2)), (1, (2, 1))), (1, "through"))
        self.assertIsNone(self.both((0, (1, 2)), (1, (1, 3))))

    def test_through_needs_both_to_be_somewhere_ahead(self):
        self.assertIsNone(self.both((0, (1, 2)), (1, (1,))))

    def test_one_that_stays_while_the_other_comes_far_behind(self):
        self.assertEqual(self.both((0, (5,)), (100, (3, 4, 5, 6))), (102, "at"))
        self.assertEqual(self.both((0, (3, 5)), (0, (0,) * 500 + (4, 5))), (501, "at"))
        self.assertIsNone(self.both((0, (3, 5)), (0, (0,) * 500 + (4, 6))))
        self.assertEqual(self.both((0, (5,)), (10 ** 30, (5,))), (10 ** 30, "at"))
        self.assertIsNone(self.both((0, (5,)), (10 ** 30, (6, 7))))

    def test_a_place_that_was_left(self):
        self.assertIsNone(self.both((0, (5, 6)), (1, (5,))))
        self.assertIsNone(self.both((0, (5, 6)), (0, (4, 5))))

    def test_many_figures(self):
        self.assertTrue(self.both((GREAT, (1, 2)), (GREAT, (2, 1))) == (GREAT, "through"))
        self.assertTrue(self.both((0, (GREAT,)), (GREAT, (1, 2, GREAT))) == (GREAT + 2, "at"))
        self.assertIsNone(self.both((0, (GREAT,)), (GREAT, (1, 2, GREAT + 1))))

    def test_kinds(self):
        told = first_meeting((0, (1,)), (0, (1,)))
        self.assertIs(type(told), tuple)
        self.assertIs(type(told[1]), str)

    def test_every_pair_of_small_ways(self):
        ways = small_ways((0, 1, 2), 3, 3)
        for one, other in itertools.combinations_with_replacement(ways, 2):
            expected = plain_meeting(one, other, 6)
            self.assertEqual(first_meeting(one, other), expected)
            self.assertEqual(first_meeting(other, one), expected)

    def test_short_ways_of_unlike_lengths(self):
        ways = small_ways((0,), 2, 5)
        for one in ways:
            for other in ((0, (1,)), (4, (0,)), (2, (1, 0, 1)), (6, (0, 1))):
                self.assertEqual(first_meeting(one, other), plain_meeting(one, other, 12))


class TestWalked(unittest.TestCase):
    floor = Floor([".+~", "|.#", "+.."])

    def charges(self, made, cells, charge, full=20, begin=0):
        carrier = made(full)
        told = walked(self.floor, carrier, (begin, tuple(cells)), charge)
        self.assertIs(type(told), list)
        self.assertEqual(carrier.full, full)
        return told

    def refused(self, made, cells, charge, full=20, floor=None):
        with self.assertRaises(FloorError) as caught:
            walked(floor or self.floor, made(full), (0, tuple(cells)), charge)
        self.assertIs(type(caught.exception), BadWay)

    def test_one_place(self):
        for made in CLASSES:
            for charge in (0, 1, 20):
                self.assertEqual(self.charges(made, (0,), charge), [charge])
                self.assertEqual(self.charges(made, (1,), charge), [charge])

    def test_staying_on_each_sign(self):
        for made, gain in ((Carrier, 2), (Cart, 2), (Crawler, 1), (Runner, 3)):
            self.assertEqual(self.charges(made, (0, 0, 0), 5), [5, 5, 5])
            self.assertEqual(self.charges(made, (3, 3, 3), 5), [5, 5, 5])
            self.assertEqual(self.charges(made, (1, 1, 1), 5), [5, 5 + gain, 5 + 2 * gain])
        self.assertEqual(self.charges(Crawler, (2, 2, 2), 5), [5, 5, 5])

    def test_staying_with_no_charge(self):
        for made in CLASSES:
            self.assertEqual(self.charges(made, (0, 0), 0), [0, 0])

    def test_a_charger_up_to_full(self):
        self.assertEqual(self.charges(Cart, (1, 1, 1, 1), 2, full=5), [2, 4, 5, 5])
        self.assertEqual(self.charges(Crawler, (1, 1, 1, 1), 3, full=5), [3, 4, 5, 5])
        self.assertEqual(self.charges(Runner, (1, 1, 1, 1), 0, full=5), [0, 3, 5, 5])
        self.assertEqual(self.charges(Cart, (1, 1, 0, 1, 1), 5, full=5), [5, 5, 4, 3, 5])

    def test_coming_to_a_charger_gives_nothing_yet(self):
        self.assertEqual(self.charges(Cart, (0, 1, 1), 5), [5, 4, 6])
        self.assertEqual(self.charges(Cart, (1, 0, 1), 5), [5, 4, 3])

    def test_steps_of_each_cost(self):
        self.assertEqual(self.charges(Cart, (0, 3, 6, 7, 8, 8), 9), [9, 8, 7, 6, 5, 5])
        self.assertEqual(self.charges(Crawler, (0, 1, 2, 2, 1), 9), [9, 8, 5, 5, 4])
        self.assertEqual(self.charges(Runner, (1, 0, 3, 4, 3, 6, 7), 9), [9, 8, 6, 5, 4, 2, 1])

    def test_just_nought(self):
        self.assertEqual(self.charges(Cart, (0, 3, 6), 2), [2, 1, 0])
        self.assertEqual(self.charges(Crawler, (1, 2), 3), [3, 0])
        self.assertEqual(self.charges(Runner, (0, 3), 2), [2, 0])
        self.assertEqual(self.charges(Cart, (3, 6, 6, 7, 8), 1), [1, 0, 2, 1, 0])

    def test_below_nought(self):
        self.refused(Cart, (0, 3), 0)
        self.refused(Cart, (0, 3, 6), 1)
        self.refused(Crawler, (1, 2), 2)
        self.refused(Runner, (0, 3), 1)
        self.refused(Cart, (3, 6, 6, 7, 8, 7), 1)

    def test_below_nought_and_charged_behind_it(self):
        self.refused(Cart, (0, 3, 6, 6, 6, 6), 1)

    def test_a_first_place_on_which_it_may_not_stand(self):
        for made in (Carrier, Cart, Runner):
            self.refused(made, (2,), 20)
            self.refused(made, (2, 1), 20)
            self.refused(made, (2, 2), 20)

    def test_walls(self):
        for made in CLASSES:
            self.refused(made, (5,), 20)
            self.refused(made, (5, 5), 20)
            self.refused(made, (5, 4), 20)
            self.refused(made, (4, 5), 20)
            self.refused(made, (8, 5), 20)

    def test_places_beyond_the_floor(self):
        for made in CLASSES:
            for place in (9, 10, 11, 100, 10 ** 30, GREAT):
                self.refused(made, (place,), 20)
                self.refused(made, (place, place), 20)
                self.refused(made, (8, place), 20)
                self.refused(made, (8, 8, place), 20)
                self.refused(made, (place, 8), 20)

    def test_a_cell_that_is_no_step(self):
        self.refused(Cart, (0, 4), 20)
        self.refused(Cart, (0, 1, 8), 20)
        self.refused(Cart, (1, 2), 20)
        self.refused(Crawler, (2, 3), 20)
        self.refused(Runner, (1, 4), 20)
        self.refused(Runner, (4, 7), 20)
        self.refused(Runner, (1, 2), 20)

    def test_no_step_round_the_end_of_a_row(self):
        floor = Floor(["|||", "|||"])
        for made in CLASSES:
            self.refused(made, (2, 3), 20, floor=floor)
            self.refused(made, (3, 2), 20, floor=floor)

    def test_a_fault_at_the_very_end(self):
        self.refused(Cart, (0,) * 50 + (8,), 20)

    def test_several_faults(self):
        self.refused(Cart, (5, 100), 0)
        self.refused(Cart, (0, 3, 100), 0)

    def test_begin_does_not_matter(self):
        for begin in (0, 1, 10 ** 30, GREAT):
            self.assertEqual(self.charges(Cart, (0, 1, 1), 5, begin=begin), [5, 4, 6])

    def test_by_name(self):
        told = walked(floor=self.floor, carrier=Cart(20), way=(0, (0, 1)), charge=4)
        self.assertEqual(told, [4, 3])

    def test_told_lists_are_the_askers_own(self):
        way = (0, (0, 1, 1))
        cart = Cart(20)
        told = walked(self.floor, cart, way, 5)
        told.clear()
        self.assertEqual(walked(self.floor, cart, way, 5), [5, 4, 6])
        self.assertEqual(way, (0, (0, 1, 1)))
        self.assertEqual(self.floor.lines, [".+~", "|.#", "+.."])

    def test_every_way_of_three_on_a_small_floor(self):
        floor = Floor(["+~", "|."])
        for made in CLASSES:
            for cells in itertools.product(range(5), repeat=3):
                for charge in (0, 1, 2, 3, 4):
                    self.check_way(floor, made, cells, charge)

    def check_way(self, floor, made, cells, charge):
        carrier = made(4)
        expected = [charge]
        good = cells[0] < 4 and (made is Crawler or cells[0] != 1)
        for here, there in zip(cells, cells[1:]):
            steps = dict(carrier.steps(floor, here)) if good else {}
            if good and here == there:
                expected.append(carrier.stayed(floor.sign(here), expected[-1]))
            elif there in steps and steps[there] <= expected[-1]:
                expected.append(expected[-1] - steps[there])
            else:
                good = False
        if good:
            self.assertEqual(walked(floor, carrier, (0, cells), charge), expected)
        else:
            self.refused(made, cells, charge, full=4, floor=floor)


if __name__ == "__main__":
    unittest.main()
