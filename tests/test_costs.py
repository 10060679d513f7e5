import itertools
import unittest

from floorways.carriers import Carrier, Cart, Crawler, Runner
from floorways.costs import cheapest, costs_to, needs_of
from floorways.floors import Floor

CLASSES = (Carrier, Cart, Crawler, Runner)
FLOORS = (
    ["..+", ".#.", "~.|"],
    ["+~.", "|~|", ".~+"],
    ["...", "|||", "..."],
    [".#.", "###", ".#+"],
    ["~~~", "~+~", "~~~"],
    ["....", ".##.", "...."],
    ["..|.+", "~#~#."],
    ["+"], ["."], ["~"], ["|#+"],
)


def plain_steps(floor, made):
    """A dict from each cell on which one may stand to a dict of its steps, by the words of the document."""
    stands = ".+|~" if made is Crawler else ".+|"
    steps = {}
    for cell in floor.cells():
        if floor.sign(cell) in stands:
            steps[cell] = {}
            for other in floor.beside(cell):
                cost = 3 if floor.sign(other) == "~" else 1
                if made is Runner and floor.row(cell) != floor.row(other):
                    cost = 2 if "|" in (floor.sign(cell), floor.sign(other)) else None
                if floor.sign(other) in stands and cost is not None:
                    steps[cell][other] = cost
    return steps


def all_rows(steps, cell):
    """Each row of steps from a cell that comes nowhere twice, with what it takes."""
    rows = []
    ahead = [([cell], 0)]
    while ahead:
        cells, cost = ahead.pop()
        rows.append((cost, cells))
        for other, more in steps[cells[-1]].items():
            if other not in cells:
                ahead.append((cells + [other], cost + more))
    return rows


def best_rows(steps, goals):
    """A dict from each cell from which a goal is come to, to the pair of the least cost and the least row."""
    best = {}
    for cell in steps:
        leading = [row for row in all_rows(steps, cell) if row[1][-1] in goals]
        if leading:
            best[cell] = min(leading)
    return best


def some_goals(cells):
    """No goals, each alone, some pairs, all, and alike ones."""
    chosen = [[]] + [[cell] for cell in cells] + [list(pair) for pair in itertools.combinations(cells, 2)][::3]
    chosen += [list(cells), list(reversed(cells))]
    chosen += [[cell, cell] for cell in cells[:2]] + [cells[-1:] + cells[:1] + cells[-1:]]
    return chosen


class TestAgainstAllRows(unittest.TestCase):
    def test_costs_and_cheapest_of_many_goals(self):
        for lines in FLOORS:
            floor = Floor(lines)
            for made in CLASSES:
                steps = plain_steps(floor, made)
                for goals in some_goals(list(steps)) if steps else [[]]:
                    with self.subTest(lines=lines, made=made.__name__, goals=goals):
                        self.check(floor, made(20), steps, goals)

    def check(self, floor, carrier, steps, goals):
        best = best_rows(steps, goals)
        handed = list(goals)
        self.assertEqual(costs_to(floor, carrier, handed), {cell: best[cell][0] for cell in best})
        for cell in steps:
            self.assertEqual(cheapest(floor, carrier, cell, handed), best[cell][1] if cell in best else None)
        self.assertEqual(handed, goals)

    def test_needs(self):
        for lines in FLOORS:
            floor = Floor(lines)
            for made in CLASSES:
                with self.subTest(lines=lines, made=made.__name__):
                    best = best_rows(plain_steps(floor, made), floor.chargers())
                    self.assertEqual(needs_of(floor, made(20)), {cell: best[cell][0] for cell in best})


class TestCostsTo(unittest.TestCase):
    def test_no_goals(self):
        for made in CLASSES:
            self.assertEqual(costs_to(Floor(["..+", ".|."]), made(20), []), {})

    def test_one_goal(self):
        floor = Floor([".~.", "...", "#.|"])
        self.assertEqual(costs_to(floor, Cart(20), [0]), {0: 0, 3: 1, 4: 2, 5: 3, 7: 3, 2: 4, 8: 4})
        self.assertEqual(costs_to(floor, Crawler(20), [0]), {0: 0, 1: 1, 3: 1, 2: 4, 4: 2, 5: 3, 7: 3, 8: 4})
        self.assertEqual(costs_to(floor, Crawler(20), [1]), {1: 0, 0: 3, 2: 3, 4: 3, 3: 4, 5: 4, 7: 4, 8: 5})
        self.assertEqual(costs_to(floor, Runner(20), [3]), {3: 0, 4: 1, 5: 2, 8: 4, 7: 5})

    def test_several_and_alike_goals(self):
        floor = Floor([".........."])
        expected = {0: 0, 1: 1, 2: 2, 3: 3, 4: 3, 5: 2, 6: 1, 7: 0, 8: 1, 9: 2}
        for goals in ([0, 7], [7, 0], [7, 0, 7], [0, 0, 7, 7, 0]):
            self.assertEqual(costs_to(floor, Cart(20), goals), expected)

    def test_cells_from_which_none_is_come_to(self):
        floor = Floor([".#.~.", ".#.~+"])
        self.assertEqual(sorted(costs_to(floor, Cart(20), [0])), [0, 5])
        self.assertEqual(sorted(costs_to(floor, Cart(20), [9])), [4, 9])
        self.assertEqual(sorted(costs_to(floor, Crawler(20), [9])), [2, 3, 4, 7, 8, 9])
        self.assertEqual(sorted(costs_to(floor, Runner(20), [2])), [2])

    def test_what_takes_more_than_full(self):
        self.assertEqual(costs_to(Floor(["....."]), Cart(1), [0])[4], 4)
        self.assertEqual(costs_to(Floor([".~~"]), Crawler(1), [2])[0], 6)

    def test_by_name(self):
        self.assertEqual(costs_to(floor=Floor([".."]), carrier=Cart(20), goals=[1]), {0: 1, 1: 0})

    def test_kind(self):
        told = costs_to(Floor(["..+"]), Cart(20), [0])
        self.assertIs(type(told), dict)
        for cell, cost in told.items():
            self.assertIs(type(cell), int)
            self.assertIs(type(cost), int)

    def test_the_greatest_floor(self):
        floor = Floor(["." * 10] * 10)
        told = costs_to(floor, Cart(20), [0])
        self.assertEqual(told, {cell: cell // 10 + cell % 10 for cell in range(100)})
        rough = costs_to(Floor(["~" * 10] * 10), Crawler(20), [99])
        self.assertEqual(rough, {cell: 3 * (18 - cell // 10 - cell % 10) for cell in range(100)})


class TestNeeds(unittest.TestCase):
    def test_without_chargers(self):
        for made in CLASSES:
            self.assertEqual(needs_of(Floor(["..|", "~.."]), made(20)), {})

    def test_nought_on_each_charger(self):
        floor = Floor(["+.+", "~+#", "#|+"])
        for made in CLASSES:
            needs = needs_of(floor, made(20))
            self.assertEqual([needs[cell] for cell in floor.chargers()], [0, 0, 0, 0])

    def test_written_out(self):
        floor = Floor(["+..", "~|.", "..#"])
        self.assertEqual(needs_of(floor, Cart(20)), {0: 0, 1: 1, 2: 2, 4: 2, 5: 3, 7: 3, 6: 4})
        self.assertEqual(needs_of(floor, Crawler(20)), {0: 0, 1: 1, 2: 2, 3: 1, 4: 2, 5: 3, 6: 4, 7: 3})
        self.assertEqual(needs_of(floor, Runner(20)), {0: 0, 1: 1, 2: 2, 4: 3, 5: 4, 7: 5, 6: 6})

    def test_the_nearer_charger(self):
        self.assertEqual(needs_of(Floor(["+....+"]), Cart(20)), {0: 0, 1: 1, 2: 2, 3: 2, 4: 1, 5: 0})

    def test_round_rough_cells(self):
        floor = Floor([".~+", "..."])
        self.assertEqual(needs_of(floor, Crawler(20))[0], 4)
        self.assertEqual(needs_of(Floor([".~+", "#.."]), Crawler(20)), {0: 4, 1: 1, 2: 0, 4: 2, 5: 1})

    def test_by_name(self):
        self.assertEqual(needs_of(floor=Floor([".+"]), carrier=Cart(20)), {0: 1, 1: 0})


class TestCheapest(unittest.TestCase):
    def test_from_a_goal_itself(self):
        floor = Floor(["...", "..."])
        for made in CLASSES:
            self.assertEqual(cheapest(floor, made(20), 1, [1]), [1])
            self.assertEqual(cheapest(floor, made(20), 1, [0, 2, 1, 1]), [1])

    def test_where_none_leads_there(self):
        floor = Floor([".#.", ".#+"])
        for made in CLASSES:
            self.assertIsNone(cheapest(floor, made(20), 0, []))
            self.assertIsNone(cheapest(floor, made(20), 0, [2, 5]))
        self.assertIsNone(cheapest(floor, Runner(20), 2, [5]))
        self.assertIsNone(cheapest(Floor([".~."]), Cart(20), 0, [2]))

    def test_of_several_the_least_cells(self):
        floor = Floor(["...", "...", "..."])
        self.assertEqual(cheapest(floor, Cart(20), 0, [8]), [0, 1, 2, 5, 8])
        self.assertEqual(cheapest(floor, Cart(20), 8, [0]), [8, 5, 2, 1, 0])
        self.assertEqual(cheapest(floor, Cart(20), 6, [2]), [6, 3, 0, 1, 2])
        self.assertEqual(cheapest(floor, Cart(20), 4, [8, 6, 2]), [4, 1, 2])
        self.assertEqual(cheapest(floor, Cart(20), 4, [6, 8]), [4, 3, 6])
        self.assertEqual(cheapest(floor, Cart(20), 4, [7, 5]), [4, 5])

    def test_a_longer_row_that_takes_less(self):
        self.assertEqual(cheapest(Floor([".~.", "..."]), Crawler(20), 0, [2]), [0, 1, 2])
        self.assertEqual(cheapest(Floor([".~~.", "...."]), Crawler(20), 0, [3]), [0, 4, 5, 6, 7, 3])

    def test_the_lanes_of_a_runner(self):
        floor = Floor(["...|", "...."])
        self.assertEqual(cheapest(floor, Runner(20), 0, [4]), [0, 1, 2, 3, 7, 6, 5, 4])
        self.assertEqual(cheapest(floor, Cart(20), 0, [4]), [0, 4])

    def test_by_name_and_kind(self):
        told = cheapest(floor=Floor(["..."]), carrier=Cart(20), cell=2, goals=[0])
        self.assertEqual(told, [2, 1, 0])
        self.assertIs(type(told), list)


class TestOwnLists(unittest.TestCase):
    def test_told_things_are_the_askers_own(self):
        lines = ["..+", "|.~"]
        floor = Floor(lines)
        goals = [3, 0, 3]
        for made in CLASSES:
            carrier = made(20)
            for ask in (lambda: costs_to(floor, carrier, goals), lambda: needs_of(floor, carrier),
                        lambda: cheapest(floor, carrier, 2, goals)):
                told = ask()
                before = told.copy()
                told.clear()
                self.assertEqual(ask(), before)
                self.assertIsNot(ask(), ask())
            self.assertEqual((goals, floor.lines, carrier.full), ([3, 0, 3], lines, 20))

    def test_goals_may_change_later(self):
        goals = [0]
        told = costs_to(Floor(["..."]), Cart(20), goals)
        row = cheapest(Floor(["..."]), Cart(20), 2, goals)
        goals.append(2)
        goals[0] = 1
        self.assertEqual((told, row), ({0: 0, 1: 1, 2: 2}, [2, 1, 0]))


if __name__ == "__main__":
    unittest.main()
