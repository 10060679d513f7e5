import itertools
import unittest

from floorways.books import Book
from floorways.errors import FloorError, Meets, NoCarrier
from plain import GREAT, book_of, held, plain_place

WAYS = {4: (0, (1, 2, 3)), 0: (2, (7, 8, 8, 9)), 9: (0, (5,)), 2: (1, (6, 1, 0, 4))}
NO_NUMBERS = (True, False, None, "", "4", 4.0, [], [4], (), (4,), {}, {4: 4}, object())


def plain_open(ways, number, cell, other, time):
    for another, way in ways.items():
        before, after = plain_place(way, time), plain_place(way, time + 1)
        if another != number and (after == other or (before, after) == (other, cell)):
            return False
    return True


def plain_free(ways, number, cell, until):
    """The least time from which on nobody else is there, looked for up to a time at which all stay."""
    taken = [
        time for time in range(until + 1) for another, way in ways.items()
        if another != number and plain_place(way, time) == cell
    ]
    if until in taken:
        return None
    return max(taken) + 1 if taken else 0


def met(ways):
    """Whether two of these ways meet, looked for time by time."""
    for one, other in itertools.combinations(ways, 2):
        for time in range(8):
            here, there = plain_place(one, time), plain_place(other, time)
            if here is not None and there is not None:
                if here == there or (plain_place(one, time + 1), plain_place(other, time + 1)) == (there, here):
                    return True
    return False


class TestPut(unittest.TestCase):
    def refused(self, book, number, way, other):
        before = held(book)
        with self.assertRaises(FloorError) as caught:
            book.put(number, way)
        self.assertIs(type(caught.exception), Meets)
        self.assertEqual(caught.exception.other, other)
        self.assertEqual(held(book), before)

    def test_empty_at_first(self):
        self.assertEqual(Book().numbers(), [])

    def test_put(self):
        book = Book()
        self.assertIsNone(book.put(4, (0, (1, 2, 3))))
        self.assertEqual(held(book), {4: (0, (1, 2, 3))})
        self.assertIsNone(book.put(number=0, way=(2, (7, 8))))
        self.assertEqual(held(book), {0: (2, (7, 8)), 4: (0, (1, 2, 3))})

    def test_in_the_place_of_an_own_way(self):
        book = book_of(WAYS)
        self.assertIsNone(book.put(4, (0, (1, 2, 10))))
        self.assertEqual(held(book), {**WAYS, 4: (0, (1, 2, 10))})
        book.put(4, (0, (1, 2, 10)))
        self.assertEqual(held(book), {**WAYS, 4: (0, (1, 2, 10))})

    def test_the_own_way_is_no_longer_there(self):
        book = book_of({0: (0, (1,)), 1: (0, (2,))})
        book.put(0, (0, (3,)))
        book.put(1, (0, (1,)))
        self.assertEqual(held(book), {0: (0, (3,)), 1: (0, (1,))})

    def test_meets_at(self):
        book = book_of({3: (0, (1, 2, 3))})
        self.refused(book, 0, (0, (1,)), 3)
        self.refused(book, 5, (0, (9, 9, 3)), 3)
        self.refused(book, 5, (100, (9, 3, 9)), 3)

    def test_meets_through(self):
        book = book_of({3: (0, (1, 2, 3))})
        self.refused(book, 0, (0, (2, 1)), 3)
        self.refused(book, 5, (1, (3, 2)), 3)

    def test_meets_in_the_place_of_an_own_way(self):
        book = book_of({0: (0, (1,)), 1: (0, (2,))})
        self.refused(book, 0, (0, (2,)), 1)
        self.refused(book, 1, (0, (2, 1)), 0)

    def test_the_least_number_is_told(self):
        for order in itertools.permutations(((8, (0, (1,))), (3, (0, (2,))), (6, (0, (3,))))):
            book = book_of(dict(order))
            self.refused(book, 0, (0, (9, 1, 2, 3)), 3)
            self.refused(book, 4, (0, (1, 2, 3)), 3)
            self.refused(book, 7, (0, (9, 1, 3)), 6)
            self.refused(book, 3, (0, (9, 1, 3)), 6)
            self.refused(book, 6, (0, (1, 2)), 3)
            self.refused(book, 10 ** 30, (0, (1,)), 8)

    def test_behind_a_refusal_it_goes_on(self):
        book = book_of({0: (0, (1,))})
        self.refused(book, 1, (0, (1,)), 0)
        book.put(1, (0, (2,)))
        self.assertEqual(book.numbers(), [0, 1])

    def test_many_figures(self):
        book = book_of({GREAT: (GREAT, (GREAT, 1))})
        with self.assertRaises(Meets) as caught:
            book.put(0, (GREAT, (1, GREAT)))
        self.assertTrue(caught.exception.other == GREAT)
        book.put(0, (GREAT, (2, GREAT)))
        self.assertTrue(book.numbers() == [0, GREAT])

    def test_every_three_small_ways(self):
        ways = [(begin, cells) for begin in (0, 1) for many in (1, 2)
                for cells in itertools.product(range(3), repeat=many)]
        for chosen in itertools.product(ways, repeat=2):
            book = Book()
            book.put(0, chosen[0])
            if met(chosen):
                self.refused(book, 1, chosen[1], 0)
            else:
                book.put(1, chosen[1])
                for way in ways:
                    meeting = [number for number in (0, 1) if met((chosen[number], way))]
                    if meeting:
                        self.refused(book, 2, way, meeting[0])
                    else:
                        book.put(2, way)
                        self.assertEqual(book.way(2), way)
                        book.drop(2)


class TestDropAndWay(unittest.TestCase):
    def refused(self, ask, number):
        with self.assertRaises(FloorError) as caught:
            ask(number)
        self.assertIs(type(caught.exception), NoCarrier)

    def test_way(self):
        book = book_of(WAYS)
        for number, way in WAYS.items():
            self.assertEqual(book.way(number), way)
            self.assertEqual(book.way(number=number), way)

    def test_drop(self):
        book = book_of(WAYS)
        self.assertIsNone(book.drop(4))
        self.assertEqual(book.numbers(), [0, 2, 9])
        self.refused(book.way, 4)
        self.refused(book.drop, 4)
        self.assertIsNone(book.drop(number=0))
        self.assertEqual(held(book), {2: WAYS[2], 9: WAYS[9]})

    def test_what_is_dropped_is_met_no_more(self):
        book = book_of({0: (0, (1,))})
        book.drop(0)
        book.put(1, (0, (1,)))
        self.assertEqual(held(book), {1: (0, (1,))})

    def test_no_carrier(self):
        for book in (Book(), book_of(WAYS)):
            before = held(book)
            for number in (1, 3, 5, 10, 10 ** 30, GREAT):
                self.refused(book.way, number)
                self.refused(book.drop, number)
            self.assertEqual(held(book), before)

    def test_what_is_no_number_is_none(self):
        book = book_of({0: (0, (1,)), 1: (0, (2,)), 4: (0, (3,))})
        for thing in NO_NUMBERS:
            with self.subTest(thing=thing):
                self.refused(book.way, thing)
                self.refused(book.drop, thing)
        self.assertEqual(book.numbers(), [0, 1, 4])

    def test_many_figures(self):
        book = book_of({GREAT: (GREAT, (GREAT,)), GREAT + 1: (0, (0,))})
        self.assertTrue(book.way(GREAT) == (GREAT, (GREAT,)))
        book.drop(GREAT)
        self.assertTrue(book.numbers() == [GREAT + 1])


class TestNumbersAndCopied(unittest.TestCase):
    def test_numbers_rise(self):
        for order in itertools.permutations(WAYS):
            book = book_of({number: WAYS[number] for number in order})
            self.assertEqual(book.numbers(), [0, 2, 4, 9])

    def test_numbers_are_the_askers_own(self):
        book = book_of(WAYS)
        told = book.numbers()
        self.assertIs(type(told), list)
        told.append(7)
        told[0] = 99
        self.assertEqual(book.numbers(), [0, 2, 4, 9])
        self.assertIsNot(book.numbers(), book.numbers())

    def test_copied(self):
        book = book_of(WAYS)
        other = book.copied()
        self.assertIs(type(other), Book)
        self.assertIsNot(other, book)
        self.assertEqual(held(other), WAYS)
        self.assertEqual(held(Book().copied()), {})

    def test_both_changed_apart(self):
        book = book_of(WAYS)
        other = book.copied()
        other.drop(4)
        other.put(0, (0, (20,)))
        other.put(11, (0, (21,)))
        self.assertEqual(held(book), WAYS)
        book.drop(9)
        book.put(2, (0, (30,)))
        book.put(12, (0, (31,)))
        self.assertEqual(held(other), {0: (0, (20,)), 2: WAYS[2], 9: WAYS[9], 11: (0, (21,))})
        self.assertEqual(held(book), {0: WAYS[0], 2: (0, (30,)), 4: WAYS[4], 12: (0, (31,))})

    def test_a_copy_refuses_likewise(self):
        other = book_of(WAYS).copied()
        with self.assertRaises(Meets) as caught:
            other.put(7, (0, (5,)))
        self.assertEqual(caught.exception.other, 9)

    def test_two_books_are_apart(self):
        one, other = Book(), Book()
        one.put(0, (0, (1,)))
        self.assertEqual((one.numbers(), other.numbers()), ([0], []))


class TestWho(unittest.TestCase):
    def test_each_place_and_time(self):
        book = book_of(WAYS)
        for cell in range(11):
            for time in range(9):
                there = [number for number, way in WAYS.items() if plain_place(way, time) == cell]
                self.assertLessEqual(len(there), 1)
                self.assertEqual(book.who(cell, time), there[0] if there else None)
                self.assertEqual(book.who(cell=cell, time=time), there[0] if there else None)

    def test_written_out(self):
        book = book_of(WAYS)
        self.assertEqual([book.who(1, time) for time in (0, 1, 2, 3)], [4, None, 2, None])
        self.assertEqual([book.who(7, time) for time in (0, 1, 2, 3)], [None, None, 0, None])
        self.assertEqual([book.who(3, time) for time in (1, 2, 3, 10 ** 30)], [None, 4, 4, 4])

    def test_an_empty_book(self):
        self.assertIsNone(Book().who(0, 0))
        self.assertIsNone(Book().who(GREAT, GREAT))

    def test_many_figures(self):
        book = book_of({GREAT: (GREAT, (GREAT, 1))})
        self.assertIsNone(book.who(GREAT, GREAT - 1))
        self.assertTrue(book.who(GREAT, GREAT) == GREAT)
        self.assertIsNone(book.who(GREAT, GREAT + 1))
        self.assertTrue(book.who(1, 2 * GREAT) == GREAT)


class TestIsOpen(unittest.TestCase):
    def test_against_the_words(self):
        book = book_of(WAYS)
        for number in (0, 1, 2, 4, 9, 10):
            for cell, other in itertools.product(range(10), repeat=2):
                for time in range(7):
                    expected = plain_open(WAYS, number, cell, other, time)
                    self.assertIs(book.is_open(number, cell, other, time), expected)

    def test_by_name(self):
        self.assertIs(book_of(WAYS).is_open(number=7, cell=6, other=5, time=0), False)
        self.assertIs(book_of(WAYS).is_open(number=9, cell=6, other=5, time=0), True)

    def test_staying(self):
        book = book_of({0: (0, (1, 2, 3))})
        self.assertIs(book.is_open(1, 2, 2, 0), False)
        self.assertIs(book.is_open(1, 2, 2, 1), True)
        self.assertIs(book.is_open(1, 3, 3, 50), False)
        self.assertIs(book.is_open(1, 4, 4, 0), True)

    def test_what_stands_there_now_and_leaves(self):
        book = book_of({0: (0, (1, 2, 3))})
        self.assertIs(book.is_open(1, 1, 1, 0), True)
        self.assertIs(book.is_open(1, 9, 1, 0), True)

    def test_going(self):
        book = book_of({0: (0, (1, 2, 3))})
        self.assertIs(book.is_open(1, 5, 2, 0), False)
        self.assertIs(book.is_open(1, 5, 3, 0), True)
        self.assertIs(book.is_open(1, 5, 3, 1), False)
        self.assertIs(book.is_open(1, 5, 3, 10 ** 30), False)

    def test_the_other_way_meanwhile(self):
        book = book_of({0: (0, (1, 2, 3))})
        self.assertIs(book.is_open(1, 2, 1, 0), False)
        self.assertIs(book.is_open(1, 3, 2, 1), False)
        self.assertIs(book.is_open(1, 2, 1, 1), True)
        self.assertIs(book.is_open(1, 4, 2, 1), True)

    def test_one_that_is_nowhere_yet(self):
        book = book_of({0: (5, (1,))})
        self.assertIs(book.is_open(1, 2, 1, 3), True)
        self.assertIs(book.is_open(1, 2, 1, 4), False)
        self.assertIs(book.is_open(1, 1, 2, 4), True)

    def test_its_own_way(self):
        book = book_of({0: (0, (1, 2, 3)), 1: (0, (5,))})
        for cell, other in itertools.product((1, 2, 3, 4), repeat=2):
            for time in range(5):
                self.assertIs(book.is_open(0, cell, other, time), True)
        self.assertIs(book.is_open(0, 4, 5, 0), False)

    def test_an_empty_book(self):
        self.assertIs(Book().is_open(0, 0, 0, 0), True)
        self.assertIs(Book().is_open(3, 1, 2, 10 ** 30), True)

    def test_many_figures(self):
        book = book_of({GREAT: (GREAT, (GREAT, 1))})
        self.assertIs(book.is_open(0, 1, GREAT, GREAT), False)
        self.assertIs(book.is_open(0, 2, GREAT, GREAT), True)
        self.assertIs(book.is_open(0, 2, GREAT, GREAT - 1), False)
        self.assertIs(book.is_open(GREAT, 1, GREAT, GREAT), True)
        self.assertIs(book.is_open(GREAT + 1, 2, 1, 2 * GREAT), False)


class TestQuiet(unittest.TestCase):
    def test_all_but_this_number(self):
        book = book_of(WAYS)
        self.assertEqual({number: book.quiet(number) for number in (0, 1, 2, 4, 9, 10 ** 30)},
                         {0: 4, 1: 5, 2: 5, 4: 5, 9: 5, 10 ** 30: 5})
        self.assertEqual(book.quiet(number=0), 4)

    def test_nought_where_there_is_none(self):
        self.assertEqual(Book().quiet(0), 0)
        self.assertEqual(book_of({3: (7, (1, 2))}).quiet(3), 0)
        self.assertEqual(book_of({3: (7, (1, 2))}).quiet(2), 8)

    def test_one_that_begins_later(self):
        self.assertEqual(book_of({0: (0, (1, 2, 3)), 1: (9, (7,))}).quiet(5), 9)

    def test_many_figures(self):
        book = book_of({GREAT: (GREAT, (GREAT, 1)), 0: (0, (5,))})
        self.assertTrue(book.quiet(0) == GREAT + 1)
        self.assertEqual(book.quiet(GREAT), 0)


class TestFreeFrom(unittest.TestCase):
    def test_against_the_words(self):
        book = book_of(WAYS)
        for number in (0, 1, 2, 4, 9, 10):
            for cell in range(11):
                expected = plain_free(WAYS, number, cell, 12)
                self.assertEqual(book.free_from(number, cell), expected)
                self.assertEqual(book.free_from(number=number, cell=cell), expected)

    def test_where_none_ever_is(self):
        self.assertEqual(book_of(WAYS).free_from(1, 50), 0)
        self.assertEqual(Book().free_from(0, 0), 0)

    def test_where_one_was(self):
        book = book_of({0: (3, (1, 2, 1, 2, 4))})
        self.assertEqual([book.free_from(5, cell) for cell in (1, 2, 3)], [6, 7, 0])

    def test_the_latest_of_several(self):
        first = {0: (0, (1, 2)), 1: (4, (1, 1, 3)), 2: (2, (1, 6))}
        for order in itertools.permutations(first):
            book = book_of({number: first[number] for number in order})
            self.assertEqual(book.free_from(9, 1), 6)
            self.assertEqual(book.free_from(1, 1), 3)
            self.assertEqual(book.free_from(0, 1), 6)

    def test_none_where_one_stays(self):
        book = book_of({0: (0, (1, 2)), 1: (5, (1,))})
        self.assertIsNone(book.free_from(9, 1))
        self.assertIsNone(book.free_from(9, 2))
        self.assertIsNone(book.free_from(0, 1))

    def test_its_own_number_left_out(self):
        book = book_of({0: (0, (1, 2)), 1: (5, (1,))})
        self.assertEqual(book.free_from(0, 2), 0)
        self.assertEqual(book.free_from(1, 1), 1)
        self.assertEqual(book_of({0: (0, (1,))}).free_from(0, 1), 0)

    def test_many_figures(self):
        book = book_of({GREAT: (GREAT, (GREAT, 1))})
        self.assertTrue(book.free_from(0, GREAT) == GREAT + 1)
        self.assertIsNone(book.free_from(0, 1))
        self.assertEqual(book.free_from(GREAT, 1), 0)


class TestWhatOthersDo(unittest.TestCase):
    def test_comings(self):
        book = book_of({0: (0, (1, 2, 3)), 5: (2, (8,)), 7: (9, (4,))})
        self.assertEqual(book.comings(9, 0), {2: 1})
        self.assertEqual(book.comings(9, 1), {3: 2, 8: None})
        self.assertEqual(book.comings(0, 1), {8: None})
        self.assertEqual(book.comings(5, 5), {3: 3})

    def test_still_till(self):
        book = book_of(WAYS)
        for number in (0, 1, 2, 4, 9):
            for time in range(8):
                for end in range(time, 9):
                    still = time
                    while still < end and self.places(number, still + 1) == self.places(number, time):
                        still += 1
                    self.assertEqual(book.still_till(number, time, end), still)
        self.assertEqual(Book().still_till(0, 3, 50), 50)

    def places(self, number, time):
        return [plain_place(way, time) for other, way in WAYS.items() if other != number]


class TestNothingIsChanged(unittest.TestCase):
    def test_asking_changes_nothing(self):
        ways = dict(WAYS)
        book = book_of(ways)
        book.who(1, 0)
        book.is_open(0, 1, 2, 0)
        book.quiet(0)
        book.free_from(0, 1)
        book.copied()
        self.assertEqual(held(book), WAYS)
        self.assertEqual(ways, WAYS)


if __name__ == "__main__":
    unittest.main()
