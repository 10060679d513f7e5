"""Rests: the nearest cell in time at which a carrier is in nobody's way ever again."""

from floorways.layers import Spread, first_layer
from floorways.seeks import is_free, searched


def rested(floor, carrier, book, number, begin, start, charge):
    free = {}
    for cell in floor.cells():
        free[cell] = book.free_from(number, cell)

    def resting(time, layer):
        return min([node for node in layer if is_free(free[node[1]], time)], default=None)

    return searched(Spread(floor, carrier, book, number, []), begin, first_layer([], start, charge), resting)
