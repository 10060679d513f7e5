"""A book: the ways of carriers, by their numbers, of which no two meet."""

from floorways.errors import Meets, NoCarrier
from floorways.ways import first_meeting, last_time, place_at, stays_till
from floorways.words import is_whole


class Book:
    def __init__(self):
        self.ways = {}

    def put(self, number, way):
        for other in self.numbers():
            if other != number and first_meeting(way, self.ways[other]) is not None:
                raise Meets(other)
        self.ways[number] = way

    def drop(self, number):
        self.check_number(number)
        self.ways.pop(number)

    def way(self, number):
        self.check_number(number)
        return self.ways[number]

    def numbers(self):
        return sorted(self.ways)

    def copied(self):
        book = Book()
        book.ways = dict(self.ways)
        return book

    def who(self, cell, time):
        for number in self.ways:
            if place_at(self.ways[number], time) == cell:
                return number
        return None

    def is_open(self, number, cell, other, time):
        return is_clear(self.comings(number, time), cell, other)

    # From each place at which one of all but this number is a tick later to where it is at the time.
    def comings(self, number, time):
        places = {}
        for way in self.ways_beside(number):
            later = place_at(way, time + 1)
            if later is not None:
                places[later] = place_at(way, time)
        return places

    def quiet(self, number):
        return max([last_time(way) for way in self.ways_beside(number)], default=0)

    def free_from(self, number, cell):
        free = 0
        for way in self.ways_beside(number):
            if way[1][-1] == cell:
                return None
            free = max(free, left_from(way, cell))
        return free

    # The last time up to which all but this number stay where they are at a time, at most the end.
    def still_till(self, number, time, end):
        return min([stays_till(way, time, end) for way in self.ways_beside(number)], default=end)

    def ways_beside(self, number):
        return [self.ways[other] for other in self.ways if other != number]

    def check_number(self, number):
        # Python finds a number in a dict by True or False, too.
        if not is_whole(number) or number not in self.ways:
            raise NoCarrier("the book has no way of that number")


# Whether one may go from a cell to another, or the same, one, where the others come as told.
def is_clear(comings, cell, other):
    return other not in comings and comings.get(cell) != other


# The least time from which on a way that ends elsewhere is never at a place again.
def left_from(way, cell):
    left = 0
    for index, place in enumerate(way[1]):
        if place == cell:
            left = way[0] + index + 1
    return left
