"""A heap of tuples of whole numbers, the least one first."""

from floorways.errors import Empty


class Heap:
    def __init__(self):
        self.things = []

    def put(self, thing):
        self.things.append(thing)
        self.lift_last()

    def least(self):
        if not self.things:
            raise Empty("the heap holds nothing")
        return self.things[0]

    def take(self):
        first = self.least()
        last = self.things.pop()
        if self.things:
            self.things[0] = last
            self.sink_first()
        return first

    def size(self):
        return len(self.things)

    def lying(self):
        return list(self.things)

    def lift_last(self):
        place = len(self.things) - 1
        above = (place - 1) // 2
        while place > 0 and self.things[place] < self.things[above]:
            self.swap(place, above)
            place = above
            above = (place - 1) // 2

    def sink_first(self):
        place = 0
        below = self.lesser_below(place)
        while below is not None and self.things[below] < self.things[place]:
            self.swap(place, below)
            place = below
            below = self.lesser_below(place)

    def lesser_below(self, place):
        below = 2 * place + 1
        if below >= len(self.things):
            return None
        if below + 1 < len(self.things) and self.things[below + 1] < self.things[below]:
            return below + 1
        return below

    def swap(self, place, other):
        kept = self.things[place]
        self.things[place] = self.things[other]
        self.things[other] = kept
