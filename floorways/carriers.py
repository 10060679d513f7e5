"""Carriers: where each kind may stand and go, what that takes and what staying gives."""

from floorways.errors import BadCharge, BadKind
from floorways.floors import CHARGER, LANE, ROUGH
from floorways.words import is_among

KINDS = ("cart", "crawler", "runner")
MOST_FULL = 60
COMMON_SIGNS = (".", "+", "|")


class Carrier:
    def __init__(self, full):
        self.full = full

    def kind(self):
        return "carrier"

    def may_stand(self, sign):
        return sign in COMMON_SIGNS

    def gain(self, sign):
        return 2 if sign == CHARGER else 0

    # What going between two cells beside one another takes, where it may stand on both.
    def fare(self, floor, cell, other):
        return 1

    def cost(self, floor, cell, other):
        if other not in floor.beside(cell):
            return None
        return self.fare_if_standing(floor, cell, other)

    def steps(self, floor, cell):
        pairs = [(other, self.fare_if_standing(floor, cell, other)) for other in floor.beside(cell)]
        return [pair for pair in pairs if pair[1] is not None]

    def stayed(self, sign, charge):
        return min(charge + self.gain(sign), self.full)

    def fare_if_standing(self, floor, cell, other):
        if self.may_stand(floor.sign(cell)) and self.may_stand(floor.sign(other)):
            return self.fare(floor, cell, other)
        return None


class Cart(Carrier):
    def kind(self):
        return "cart"


class Crawler(Carrier):
    def kind(self):
        return "crawler"

    def may_stand(self, sign):
        return sign == ROUGH or sign in COMMON_SIGNS

    def gain(self, sign):
        return 1 if sign == CHARGER else 0

    def fare(self, floor, cell, other):
        return 3 if floor.sign(other) == ROUGH else 1


class Runner(Carrier):
    def kind(self):
        return "runner"

    def gain(self, sign):
        return 3 if sign == CHARGER else 0

    def fare(self, floor, cell, other):
        if floor.row(cell) == floor.row(other):
            return 1
        if LANE in (floor.sign(cell), floor.sign(other)):
            return 2
        return None


def carrier_of(kind, full=20):
    if not isinstance(kind, str) or kind not in KINDS:
        raise BadKind("a kind is one of cart, crawler, runner")
    if not is_among(full, 1, MOST_FULL):
        raise BadCharge("a full charge is a whole number from 1 to 60")
    if kind == "cart":
        return Cart(full)
    if kind == "crawler":
        return Crawler(full)
    return Runner(full)


# Of anything, whether it is a cell on which the carrier may stand.
def stands_at(floor, carrier, cell):
    return floor.has(cell) and carrier.may_stand(floor.sign(cell))
