"""Least costs of coming from one cell to others, on a floor without other carriers."""

from floorways.heaps import Heap


# Steps are walked backwards from the goals, so each cell knows those that lead into it.
def steps_into(floor, carrier):
    into = {}
    for cell in floor.cells():
        into[cell] = []
    for cell in standing_cells(floor, carrier):
        for other, cost in carrier.steps(floor, cell):
            into[other].append((cell, cost))
    return into


def standing_cells(floor, carrier):
    return [cell for cell in floor.cells() if carrier.may_stand(floor.sign(cell))]


def costs_to(floor, carrier, goals):
    into = steps_into(floor, carrier)
    costs = {}
    heap = Heap()
    for goal in goals:
        heap.put((0, goal))
    while heap.size() > 0:
        taken = heap.take()
        cell = taken[1]
        # A cell may lie in the heap several times; the first one taken is its least.
        if cell not in costs:
            costs[cell] = taken[0]
            for other, cost in into[cell]:
                heap.put((taken[0] + cost, other))
    return costs


def needs_of(floor, carrier):
    chargers = [cell for cell in floor.chargers() if carrier.may_stand(floor.sign(cell))]
    return costs_to(floor, carrier, chargers)


def cheapest(floor, carrier, cell, goals):
    costs = costs_to(floor, carrier, goals)
    if cell not in costs:
        return None
    cells = [cell]
    # Each step takes something, so only a goal is left with nothing to pay.
    while costs[cells[-1]] > 0:
        cells.append(least_next(floor, carrier, cells[-1], costs))
    return cells


def least_next(floor, carrier, cell, costs):
    return min([
        other for other, cost in carrier.steps(floor, cell)
        if other in costs and cost + costs[other] == costs[cell]
    ])
