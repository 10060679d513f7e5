"""Ways: where a carrier is at each time, when two of them meet, and what charge a way leaves."""

from floorways.carriers import stands_at
from floorways.errors import BadWay


def last_time(way):
    return way[0] + len(way[1]) - 1


# The index of the place at a time that isn't ahead of the begin: the last one's from its time on for ever.
def index_at(way, time):
    return min(time - way[0], len(way[1]) - 1)


def place_at(way, time):
    if time < way[0]:
        return None
    return way[1][index_at(way, time)]


def way_later(way, time):
    return (time, way[1][index_at(way, time):])


# The last time up to which a way stays where it is at a time, at most the end.
def stays_till(way, time, end):
    if time < way[0]:
        return min(way[0] - 1, end)
    place = place_at(way, time)
    for later in range(time + 1, min(last_time(way), end) + 1):
        if place_at(way, later) != place:
            return later - 1
    return end


def meeting_word(one, other, time):
    place = place_at(one, time)
    far = place_at(other, time)
    if place == far:
        return "at"
    if place_at(one, time + 1) == far and place_at(other, time + 1) == place:
        return "through"
    return None


def first_meeting(one, other):
    # Ahead of the later begin one of them is nowhere, and from the later last time on both stay:
    # so the times to look at are few, however great they are.
    begin = max(one[0], other[0])
    end = max(last_time(one), last_time(other))
    for time in range(begin, end + 1):
        word = meeting_word(one, other, time)
        if word is not None:
            return (time, word)
    return None


def walked(floor, carrier, way, charge):
    cells = way[1]
    if not stands_at(floor, carrier, cells[0]):
        raise BadWay("the first place is no cell on which the carrier may stand")
    charges = [charge]
    for index in range(1, len(cells)):
        charges.append(next_charge(floor, carrier, cells[index - 1], cells[index], charges[-1]))
    if min(charges) < 0:
        raise BadWay("the charge is below nought")
    return charges


def next_charge(floor, carrier, cell, other, charge):
    if other == cell:
        return carrier.stayed(floor.sign(cell), charge)
    cost = dict(carrier.steps(floor, cell)).get(other)
    if cost is None:
        raise BadWay("no step of the carrier leads from a cell to the next one")
    return charge - cost
