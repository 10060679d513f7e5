"""Seeking: the way over stops that is over the earliest, or the layer that is shut."""

from floorways.layers import Spread, first_layer


class Found:
    def __init__(self, path, left):
        self.path = path
        self.left = left


class Shut:
    def __init__(self, moment, layer):
        self.moment = moment
        self.layer = dict(layer)


def sought(floor, carrier, book, number, begin, start, charge, stops, least=0):
    goal = (len(stops), stops[-1])
    free = book.free_from(number, stops[-1])

    def there(time, layer):
        if goal in layer and layer[goal] >= least and is_free(free, time):
            return goal
        return None

    return searched(Spread(floor, carrier, book, number, stops), begin, first_layer(stops, start, charge), there)


# Whether a place is free for ever at a time, by what a book's free_from tells of it.
def is_free(free, time):
    return free is not None and free <= time


# there(time, layer) tells the node of a layer at which the carrier is there at a time, or None.
def searched(spread, begin, layer, there):
    quiet = max(begin, spread.booked.quiet(spread.number))
    time = begin
    marks = [(time, layer)]
    node = there(time, layer)
    while node is None:
        behind = spread.layer_behind(time, layer)
        if behind != layer:
            time += 1
            layer = behind
            marks.append((time, layer))
        elif time >= quiet:
            return Shut(time, layer)
        else:
            # A layer that is as the next one stays so while the others stand still, however long that is.
            time = max(time + 1, spread.booked.still_till(spread.number, time, quiet))
        node = there(time, layer)
    return Found((begin, traced(spread, marks, time, node)), layer[node])


# The cells of the way to a node of a time. A mark is a time and the layer from then on, up to the next mark's time.
def traced(spread, marks, time, node):
    charge = marks[-1][1][node]
    cells = [node[1]]
    for first, layer in reversed(marks):
        while time > first:
            time -= 1
            node = spread.node_ahead(time, layer, node, charge)
            charge = layer[node]
            cells.append(node[1])
    return tuple(reversed(cells))
