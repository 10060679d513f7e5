"""Layers: the nodes at which a carrier can be at a time, each with the greatest charge that it can have there."""

from floorways.books import is_clear


def stops_met(stops, many, cell):
    met = many
    while met < len(stops) and stops[met] == cell:
        met += 1
    return met


def first_layer(stops, start, charge):
    return {(stops_met(stops, 0, start), start): charge}


def next_layer(floor, carrier, book, number, stops, time, layer):
    return Spread(floor, carrier, book, number, stops).layer_behind(time, layer)


# What a carrier can do from one time to the next, over stops, by what a book has of all other numbers.
class Spread:
    def __init__(self, floor, carrier, book, number, stops):
        self.floor = floor
        self.mover = carrier
        self.booked = book
        self.number = number
        self.stops = stops
        # A seeking asks for the steps from a node at each time anew.
        self.known = {}

    def layer_behind(self, time, layer):
        comings = self.booked.comings(self.number, time)
        behind = {}
        for node in layer:
            for other, charge in self.reached(comings, node, layer[node]):
                if charge > behind.get(other, -1):
                    behind[other] = charge
        return behind

    # The node ahead of one that has this charge in the layer behind.
    def node_ahead(self, time, layer, node, charge):
        comings = self.booked.comings(self.number, time)
        near = self.floor.beside(node[1]) + [node[1]]
        return min([
            other for other in layer
            if other[1] in near and (node, charge) in self.reached(comings, other, layer[other])
        ])

    # Each node to which a tick leads from one with a charge, and the charge with which it comes there.
    def reached(self, comings, node, charge):
        cell = node[1]
        pairs = []
        if is_clear(comings, cell, cell):
            pairs.append((self.node_at(node, cell), self.mover.stayed(self.floor.sign(cell), charge)))
        for other, cost in self.steps_from(node):
            if cost <= charge and is_clear(comings, cell, other[1]):
                pairs.append((other, charge - cost))
        return pairs

    def steps_from(self, node):
        if node not in self.known:
            steps = self.mover.steps(self.floor, node[1])
            self.known[node] = [(self.node_at(node, other), cost) for other, cost in steps]
        return self.known[node]

    def node_at(self, node, cell):
        return (stops_met(self.stops, node[0], cell), cell)
