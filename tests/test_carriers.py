import itertools
import unittest

from floorways.carriers import Carrier, Cart, Crawler, Runner, carrier_of
from floorways.errors import BadCharge, BadKind, FloorError
from floorways.floors import Floor

SIGNS = ".#+~|"
CLASSES = (Carrier, Cart, Crawler, Runner)
KINDS = {Carrier: "carrier", Cart: "cart", Crawler: "crawler", Runner: "runner"}
STANDS = {Carrier: ".+|", Cart: ".+|", Crawler: ".+|~", Runner: ".+|"}
GAINS = {Carrier: 2, Cart: 2, Crawler: 1, Runner: 3}
NO_KINDS = (
    "", "carrier", "Cart", "CART", " cart", "cart ", "cart\n", "carts", "car", "crawlers", "runner ", "run", "truck",
    "c", "+", "0", None, True, False, 0, 1, -1, 10 ** 30, 1.5, [], ["cart"], (), ("cart",), {}, {"cart": 1}, {"cart"},
    b"cart", object(), Cart, Cart(5),
)
NO_CHARGES = (
    0, 61, 62, 100, -1, -20, -60, 10 ** 30, -(10 ** 30), True, False, None, "", "1", "20", "full", 1.0, 20.0, 1.5,
    [], [20], (), (20,), {}, {20: 20}, b"20", object(), int,
)


def expected_cost(made, sign, other, along_row):
    """What going from one sign to another takes, by the words of the document."""
    if sign not in STANDS[made] or other not in STANDS[made]:
        return None
    if made is Crawler and other == "~":
        return 3
    if made is Runner and not along_row:
        return 2 if "|" in (sign, other) else None
    return 1


class TestClasses(unittest.TestCase):
    def test_the_three_stand_straight_under_carrier(self):
        for made in (Cart, Crawler, Runner):
            self.assertEqual(made.__bases__, (Carrier,))

    def test_kind(self):
        for made in CLASSES:
            self.assertEqual(made(20).kind(), KINDS[made])

    def test_full(self):
        for made in CLASSES:
            for full in (1, 2, 20, 59, 60):
                self.assertEqual(made(full).full, full)
            self.assertEqual(made(full=7).full, 7)

    def test_two_carriers_are_apart(self):
        one, other = Cart(5), Cart(9)
        self.assertEqual((one.full, other.full), (5, 9))

    def test_may_stand(self):
        for made in CLASSES:
            for sign in SIGNS:
                with self.subTest(made.__name__, sign=sign):
                    self.assertIs(made(20).may_stand(sign), sign in STANDS[made])
                    self.assertIs(made(20).may_stand(sign=sign), sign in STANDS[made])

    def test_gain(self):
        for made in CLASSES:
            for sign in SIGNS:
                with self.subTest(made.__name__, sign=sign):
                    self.assertEqual(made(20).gain(sign), GAINS[made] if sign == "+" else 0)
                    self.assertEqual(made(20).gain(sign=sign), GAINS[made] if sign == "+" else 0)

    def test_gain_is_the_same_for_any_full(self):
        for made in CLASSES:
            self.assertEqual([made(full).gain("+") for full in (1, 2, 60)], [GAINS[made]] * 3)


class TestCost(unittest.TestCase):
    def pairs(self):
        return [pair for pair in itertools.product(SIGNS, repeat=2) if pair != ("#", "#")]

    def test_each_pair_of_signs_along_a_row(self):
        for made in CLASSES:
            for sign, other in self.pairs():
                if sign in STANDS[made]:
                    with self.subTest(made.__name__, sign=sign, other=other):
                        expected = expected_cost(made, sign, other, True)
                        self.assertEqual(made(20).cost(Floor([sign + other]), 0, 1), expected)
                        self.assertEqual(made(20).cost(Floor([other + sign]), 1, 0), expected)

    def test_each_pair_of_signs_from_row_to_row(self):
        for made in CLASSES:
            for sign, other in self.pairs():
                if sign in STANDS[made]:
                    with self.subTest(made.__name__, sign=sign, other=other):
                        expected = expected_cost(made, sign, other, False)
                        self.assertEqual(made(20).cost(Floor([sign, other]), 0, 1), expected)
                        self.assertEqual(made(20).cost(Floor([other, sign]), 1, 0), expected)
                        wide = Floor([sign + "..", other + ".."])
                        self.assertEqual(made(20).cost(wide, 0, 3), expected)

    def test_written_out(self):
        floor = Floor([".|", "~.", "+."])
        self.assertEqual(Cart(20).cost(floor, 0, 1), 1)
        self.assertIsNone(Cart(20).cost(floor, 0, 2))
        self.assertEqual(Cart(20).cost(floor, 3, 5), 1)
        self.assertEqual(Crawler(20).cost(floor, 0, 2), 3)
        self.assertEqual(Crawler(20).cost(floor, 2, 0), 1)
        self.assertEqual(Runner(20).cost(floor, 0, 1), 1)
        self.assertEqual(Runner(20).cost(floor, 1, 3), 2)
        self.assertEqual(Runner(20).cost(floor, 3, 1), 2)
        self.assertIsNone(Runner(20).cost(floor, 3, 5))
        self.assertEqual(Runner(20).cost(floor, 5, 4), 1)

    def test_by_name(self):
        self.assertEqual(Crawler(full=9).cost(floor=Floor([".~"]), cell=0, other=1), 3)

    def test_the_charge_that_is_full_does_not_matter(self):
        self.assertEqual(Crawler(1).cost(Floor([".~"]), 0, 1), 3)
        self.assertEqual(Runner(1).cost(Floor(["|", "."]), 0, 1), 2)

    def test_none_where_it_is_not_beside(self):
        floor = Floor(["||||", "||||", "||||"])
        for made in CLASSES:
            for cell in floor.cells():
                for other in floor.cells():
                    if other not in floor.beside(cell):
                        self.assertIsNone(made(20).cost(floor, cell, other))

    def test_two_lanes_from_row_to_row(self):
        self.assertEqual(Runner(20).cost(Floor(["|", "|"]), 0, 1), 2)
        self.assertEqual(Runner(20).cost(Floor(["||"]), 0, 1), 1)


class TestSteps(unittest.TestCase):
    lines = ["|.~", "..|", "+#."]

    def test_each_kind(self):
        floor = Floor(self.lines)
        cart = {0: [(1, 1), (3, 1)], 1: [(0, 1), (4, 1)], 3: [(0, 1), (4, 1), (6, 1)], 4: [(1, 1), (3, 1), (5, 1)],
                5: [(4, 1), (8, 1)], 6: [(3, 1)], 8: [(5, 1)]}
        crawler = dict(cart)
        crawler.update({1: [(0, 1), (2, 3), (4, 1)], 2: [(1, 1), (5, 1)], 5: [(2, 3), (4, 1), (8, 1)]})
        runner = {0: [(1, 1), (3, 2)], 1: [(0, 1)], 3: [(0, 2), (4, 1)], 4: [(3, 1), (5, 1)],
                  5: [(4, 1), (8, 2)], 6: [], 8: [(5, 2)]}
        for made, steps in ((Carrier, cart), (Cart, cart), (Crawler, crawler), (Runner, runner)):
            for cell in steps:
                with self.subTest(made.__name__, cell=cell):
                    self.assertEqual(made(20).steps(floor, cell), steps[cell])
                    self.assertEqual(made(20).steps(floor=floor, cell=cell), steps[cell])

    def test_a_list_of_tuples(self):
        for made in CLASSES:
            told = made(20).steps(Floor(self.lines), 4)
            self.assertIs(type(told), list)
            for pair in told:
                self.assertIs(type(pair), tuple)

    def test_none_beside(self):
        for made in CLASSES:
            self.assertEqual(made(20).steps(Floor(["."]), 0), [])
            self.assertEqual(made(20).steps(Floor(["#+#", "###"]), 1), [])

    def test_as_the_costs_say_on_every_floor_of_four(self):
        for made in CLASSES:
            carrier = made(20)
            for signs in itertools.product(SIGNS, repeat=4):
                text = "".join(signs)
                if text != "####":
                    self.check_floor(carrier, Floor([text[:2], text[2:]]), STANDS[made])

    def check_floor(self, carrier, floor, stands):
        for cell in floor.cells():
            if floor.sign(cell) in stands:
                pairs = []
                for other in floor.beside(cell):
                    along = other // 2 == cell // 2
                    cost = expected_cost(carrier.__class__, floor.sign(cell), floor.sign(other), along)
                    if cost is not None:
                        pairs.append((other, cost))
                self.assertEqual(carrier.steps(floor, cell), pairs)

    def test_told_lists_are_the_askers_own(self):
        floor = Floor(self.lines)
        for made in CLASSES:
            carrier = made(20)
            told = carrier.steps(floor, 4)
            before = list(told)
            told.append((9, 9))
            told[0] = (7, 7)
            self.assertEqual(carrier.steps(floor, 4), before)
            self.assertIsNot(carrier.steps(floor, 4), carrier.steps(floor, 4))
            self.assertEqual(floor.lines, self.lines)


class TestStayed(unittest.TestCase):
    def test_on_a_charger_from_nought_to_full(self):
        for made in CLASSES:
            for full in (1, 2, 3, 4, 20, 60):
                for charge in range(full + 1):
                    with self.subTest(made.__name__, full=full, charge=charge):
                        expected = charge + GAINS[made] if charge + GAINS[made] < full else full
                        self.assertEqual(made(full).stayed("+", charge), expected)

    def test_written_out(self):
        self.assertEqual([Cart(5).stayed("+", charge) for charge in range(6)], [2, 3, 4, 5, 5, 5])
        self.assertEqual([Crawler(5).stayed("+", charge) for charge in range(6)], [1, 2, 3, 4, 5, 5])
        self.assertEqual([Runner(5).stayed("+", charge) for charge in range(6)], [3, 4, 5, 5, 5, 5])
        self.assertEqual([made(1).stayed("+", 0) for made in CLASSES], [1, 1, 1, 1])

    def test_nothing_on_all_other_cells(self):
        for made in CLASSES:
            for sign in STANDS[made].replace("+", ""):
                for charge in (0, 1, 19, 20):
                    self.assertEqual(made(20).stayed(sign, charge), charge)

    def test_by_name(self):
        self.assertEqual(Cart(20).stayed(sign="+", charge=3), 5)

    def test_the_carrier_itself_keeps_nothing(self):
        cart = Cart(20)
        self.assertEqual([cart.stayed("+", 3), cart.stayed("+", 3), cart.full], [5, 5, 20])


class TestCarrierOf(unittest.TestCase):
    def refused(self, error, kind, full):
        with self.assertRaises(FloorError) as caught:
            carrier_of(kind, full)
        self.assertIs(type(caught.exception), error)

    def test_each_kind(self):
        for made in (Cart, Crawler, Runner):
            for full in (1, 2, 20, 59, 60):
                carrier = carrier_of(KINDS[made], full)
                self.assertIs(type(carrier), made)
                self.assertEqual((carrier.kind(), carrier.full), (KINDS[made], full))

    def test_full_left_out(self):
        for made in (Cart, Crawler, Runner):
            self.assertEqual(carrier_of(KINDS[made]).full, 20)

    def test_by_name(self):
        carrier = carrier_of(full=9, kind="runner")
        self.assertEqual((carrier.kind(), carrier.full), ("runner", 9))

    def test_new_ones_each_time(self):
        self.assertIsNot(carrier_of("cart"), carrier_of("cart"))

    def test_bad_kinds(self):
        for kind in NO_KINDS:
            with self.subTest(kind=kind):
                self.refused(BadKind, kind, 20)
                with self.assertRaises(BadKind):
                    carrier_of(kind)

    def test_bad_kind_comes_first(self):
        for kind in NO_KINDS:
            for full in (0, 61, True, None, "20", []):
                self.refused(BadKind, kind, full)

    def test_bad_charges(self):
        for kind in ("cart", "crawler", "runner"):
            for full in NO_CHARGES:
                with self.subTest(kind, full=full):
                    self.refused(BadCharge, kind, full)


if __name__ == "__main__":
    unittest.main()
