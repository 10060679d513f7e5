import itertools
import unittest

from floorways.errors import Empty
from floorways.heaps import Heap


def heap_of(things):
    heap = Heap()
    for thing in things:
        heap.put(thing)
    return heap


def taken_all(heap):
    taken = []
    while heap.size():
        taken.append(heap.take())
    return taken


def mixed_numbers(many, below):
    """Numbers in no plain order, the same ones each time."""
    number = 12345
    numbers = []
    for turn in range(many):
        number = (number * 1103515245 + 12345) % 2 ** 31
        numbers.append((number >> 8) % below)
    return numbers


class TestHeap(unittest.TestCase):
    def check(self, heap, held):
        """The rule of [3], and that the heap holds just these things."""
        lying = heap.lying()
        self.assertIsInstance(lying, list)
        self.assertEqual(sorted(lying), sorted(held))
        self.assertEqual(heap.size(), len(held))
        for place in range(1, len(lying)):
            self.assertGreaterEqual(lying[place], lying[(place - 1) // 2])
        if held:
            self.assertEqual(heap.least(), min(held))
            self.assertEqual(lying[0], min(held))
        else:
            self.check_empty(heap)

    def check_empty(self, heap):
        with self.assertRaises(Empty):
            heap.least()
        with self.assertRaises(Empty):
            heap.take()
        self.assertEqual(heap.size(), 0)
        self.assertEqual(heap.lying(), [])

    def check_all_deeds(self, things):
        heap = Heap()
        held = []
        self.check(heap, held)
        for thing in things:
            self.assertIsNone(heap.put(thing))
            held.append(thing)
            self.check(heap, held)
        for thing in sorted(things):
            self.assertEqual(heap.take(), thing)
            held.remove(thing)
            self.check(heap, held)

    def test_empty_at_first(self):
        self.check_empty(Heap())

    def test_one_thing(self):
        self.check_all_deeds([(5,)])

    def test_every_order_of_seven(self):
        for order in itertools.permutations(range(7)):
            lying = heap_of([(number,) for number in order]).lying()
            for place in range(1, 7):
                self.assertGreaterEqual(lying[place], lying[(place - 1) // 2])

    def test_every_order_of_six_taken(self):
        for order in itertools.permutations(range(6)):
            self.check_all_deeds([(number,) for number in order])

    def test_alike_ones(self):
        for order in itertools.product(range(3), repeat=6):
            self.check_all_deeds([(number,) for number in order])

    def test_tuples_of_several(self):
        things = [(2, 1), (1, 9, 9), (1,), (1, 9), (2, 0, 5), (1, 9), (-3, 4), (2,), (10 ** 30, 0), (-3, -4), ()]
        for turn in range(len(things)):
            self.check_all_deeds(things[turn:] + things[:turn])

    def test_later_numbers_of_a_tuple_count(self):
        heap = heap_of([(1, 2, 3), (1, 2, 2), (1, 1, 9)])
        self.assertEqual(taken_all(heap), [(1, 1, 9), (1, 2, 2), (1, 2, 3)])

    def test_rising_and_falling(self):
        for many in (1, 2, 3, 4, 7, 8, 15, 16, 33):
            rising = [(number, -number) for number in range(many)]
            self.check_all_deeds(rising)
            self.check_all_deeds(rising[::-1])

    def test_taken_one_by_one_they_rise(self):
        things = [(number, number % 5) for number in mixed_numbers(2000, 300)]
        self.assertEqual(taken_all(heap_of(things)), sorted(things))

    def test_put_and_taken_by_turns(self):
        heap = Heap()
        held = []
        for turn, number in enumerate(mixed_numbers(1500, 40)):
            if number % 5 < 2 and held:
                self.assertEqual(heap.take(), min(held))
                held.remove(min(held))
            else:
                heap.put((number // 4, turn % 3))
                held.append((number // 4, turn % 3))
            self.check(heap, held)

    def test_every_row_of_puts_and_takes(self):
        for deeds in itertools.product((None, 0, 1, 2), repeat=6):
            heap = Heap()
            held = []
            for deed in deeds:
                if deed is not None:
                    heap.put((deed,))
                    held.append((deed,))
                elif held:
                    self.assertEqual(heap.take(), min(held))
                    held.remove(min(held))
                else:
                    self.check_empty(heap)
                self.check(heap, held)

    def test_least_takes_nothing_away(self):
        heap = heap_of([(3,), (1,), (2,)])
        lying = heap.lying()
        for turn in range(3):
            self.assertEqual(heap.least(), (1,))
        self.assertEqual(heap.lying(), lying)

    def test_goes_on_behind_a_refusal(self):
        heap = Heap()
        self.check_empty(heap)
        heap.put((2,))
        heap.put((1,))
        self.check(heap, [(1,), (2,)])
        self.assertEqual(taken_all(heap), [(1,), (2,)])
        self.check_empty(heap)
        heap.put((7, 7))
        self.check(heap, [(7, 7)])

    def test_a_told_list_is_the_askers_own(self):
        things = [(number,) for number in mixed_numbers(20, 9)]
        heap = heap_of(things)
        told = heap.lying()
        kept = list(told)
        told.append((-1,))
        told[0] = (99,)
        told.reverse()
        self.assertEqual(heap.lying(), kept)
        told.clear()
        self.check(heap, things)
        self.assertIsNot(heap.lying(), heap.lying())

    def test_a_told_list_stays_as_it_was(self):
        heap = heap_of([(3,), (1,), (2,)])
        told = heap.lying()
        kept = list(told)
        heap.take()
        heap.put((0,))
        self.assertEqual(told, kept)

    def test_a_told_list_of_an_empty_heap(self):
        heap = Heap()
        heap.lying().append((1,))
        self.check_empty(heap)

    def test_two_heaps_are_apart(self):
        one = heap_of([(1,), (2,)])
        other = Heap()
        self.check_empty(other)
        other.put((9,))
        self.check(one, [(1,), (2,)])
        one.take()
        self.check(other, [(9,)])
        self.check(Heap(), [])

    def test_by_name(self):
        heap = Heap()
        self.assertIsNone(heap.put(thing=(4, 2)))
        self.assertEqual(heap.least(), (4, 2))


if __name__ == "__main__":
    unittest.main()
