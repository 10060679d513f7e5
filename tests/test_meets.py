import itertools
import unittest

from floorways.meets import meetings
from plain import GREAT, plain_place


def plain_word(one, other, time):
    here, there = plain_place(one, time), plain_place(other, time)
    if here is None or there is None:
        return None
    if here == there:
        return "at"
    return "through" if (plain_place(one, time + 1), plain_place(other, time + 1)) == (there, here) else None


def plain_meetings(ways, until):
    """Looked for time by time, and of each time by all pairs of numbers."""
    told = []
    for time in range(until + 1):
        for one, other in itertools.product(sorted(ways), repeat=2):
            if one < other and (one, other) not in [row[1:3] for row in told]:
                word = plain_word(ways[one], ways[other], time)
                if word is not None:
                    told.append((time, one, other, word))
    return told


class TestMeetings(unittest.TestCase):
    def test_no_ways_and_one(self):
        self.assertEqual(meetings({}), [])
        self.assertEqual(meetings({3: (0, (1, 2))}), [])
        self.assertEqual(meetings(ways={0: (5, (1,))}), [])

    def test_none_that_meet(self):
        self.assertEqual(meetings({0: (0, (1,)), 1: (0, (2,)), 2: (0, (3, 4, 5))}), [])
        self.assertEqual(meetings({0: (0, (1, 2, 3)), 1: (1, (1, 2))}), [])

    def test_at(self):
        self.assertEqual(meetings({0: (0, (1, 2, 3)), 1: (0, (7, 7, 3))}), [(2, 0, 1, "at")])
        self.assertEqual(meetings({0: (0, (1,)), 1: (9, (1, 2))}), [(9, 0, 1, "at")])

    def test_through(self):
        self.assertEqual(meetings({0: (0, (1, 2)), 1: (0, (2, 1))}), [(0, 0, 1, "through")])
        self.assertEqual(meetings({0: (3, (1, 2)), 1: (0, (8, 8, 8, 2, 1))}), [(3, 0, 1, "through")])

    def test_at_comes_ahead_of_through_at_one_time(self):
        self.assertEqual(meetings({0: (0, (1, 1)), 1: (0, (1, 1))}), [(0, 0, 1, "at")])

    def test_each_two_once_at_their_first_meeting(self):
        one, other = (0, (1, 2, 1, 2)), (0, (2, 1, 2, 1))
        self.assertEqual(meetings({0: one, 1: other}), [(0, 0, 1, "through")])
        self.assertEqual(meetings({0: (0, (1, 2, 3)), 1: (0, (9, 2, 3))}), [(1, 0, 1, "at")])

    def test_several_at_one_time(self):
        ways = {5: (0, (1, 2)), 2: (0, (2, 1)), 7: (0, (3,)), 3: (0, (3,)), 4: (0, (3, 9))}
        told = [(0, 2, 5, "through"), (0, 3, 4, "at"), (0, 3, 7, "at"), (0, 4, 7, "at")]
        self.assertEqual(meetings(ways), told)

    def test_at_unlike_times_they_rise(self):
        ways = {0: (0, (1, 1, 1, 1, 4)), 1: (0, (2, 2, 4)), 2: (0, (7, 3)), 3: (1, (3,)), 9: (0, (2, 4, 8))}
        told = [(0, 1, 9, "at"), (1, 2, 3, "at"), (4, 0, 1, "at")]
        self.assertEqual(meetings(ways), told)

    def test_the_time_comes_ahead_of_the_numbers(self):
        ways = {0: (0, (1, 1, 1, 5)), 1: (0, (5,)), 2: (0, (6, 7)), 3: (0, (7, 6)), 10: (0, (8,)), 11: (2, (8,))}
        self.assertEqual(meetings(ways), [(0, 2, 3, "through"), (2, 10, 11, "at"), (3, 0, 1, "at")])

    def test_one_is_the_lesser_number_in_any_order(self):
        ways = {2: (0, (1, 2, 3)), 10: (0, (2, 1)), 1: (1, (2, 2)), 30: (0, (3,))}
        expected = [(0, 2, 10, "through"), (1, 1, 2, "at"), (2, 2, 30, "at")]
        for order in itertools.permutations(ways):
            self.assertEqual(meetings({number: ways[number] for number in order}), expected)

    def test_against_the_words(self):
        some = [(begin, cells) for begin in (0, 2) for many in (1, 2, 3)
                for cells in itertools.product(range(3), repeat=many)]
        for index in range(len(some)):
            for apart in (1, 5, 11):
                ways = {}
                for number in (6, 0, 3, 2):
                    ways[number] = some[(index + apart * number) % len(some)]
                self.assertEqual(meetings(ways), plain_meetings(ways, 8))

    def test_every_two_small_ways(self):
        some = [(begin, cells) for begin in (0, 1) for many in (1, 2)
                for cells in itertools.product(range(3), repeat=many)]
        for one, other in itertools.product(some, repeat=2):
            ways = {1: one, 0: other}
            self.assertEqual(meetings(ways), plain_meetings(ways, 5))

    def test_many_figures(self):
        ways = {GREAT: (GREAT, (GREAT, 1)), GREAT + 1: (GREAT, (1, GREAT)), 0: (0, (5,)), 7: (GREAT + 9, (1,))}
        told = [(GREAT, GREAT, GREAT + 1, "through"), (GREAT + 9, 7, GREAT, "at")]
        self.assertTrue(meetings(ways) == told)

    def test_what_is_told_and_handed_in_are_apart(self):
        ways = {4: (0, (1, 2)), 1: (0, (2, 1))}
        told = meetings(ways)
        self.assertIs(type(told), list)
        self.assertEqual([type(row) for row in told], [tuple])
        told.append("more")
        told[0] = None
        self.assertEqual(meetings(ways), [(0, 1, 4, "through")])
        self.assertEqual(list(ways.items()), [(4, (0, (1, 2))), (1, (0, (2, 1)))])
        kept = meetings(ways)
        ways.clear()
        self.assertEqual(kept, [(0, 1, 4, "through")])


if __name__ == "__main__":
    unittest.main()
