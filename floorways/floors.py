"""A floor: rows of signs, and the places that they number."""

from floorways.errors import BadFloor
from floorways.words import is_among

WALL = "#"
CHARGER = "+"
ROUGH = "~"
LANE = "|"
SIGNS = ".#+~|"
MOST_ROWS = 10
MOST_SIGNS = 10


def check_row(line, wide):
    if not isinstance(line, str) or len(line) != wide:
        raise BadFloor("the rows are texts, all alike in length")
    if not all([sign in SIGNS for sign in line]):
        raise BadFloor("a row has a sign that no floor has")


def check_floor(lines):
    if not isinstance(lines, list) or not is_among(len(lines), 1, MOST_ROWS):
        raise BadFloor("a floor is a list of 1 to 10 rows")
    if not isinstance(lines[0], str) or not is_among(len(lines[0]), 1, MOST_SIGNS):
        raise BadFloor("a row is a text of 1 to 10 signs")
    for line in lines:
        check_row(line, len(lines[0]))
    if all([sign == WALL for sign in "".join(lines)]):
        raise BadFloor("a floor has a cell at least")


class Floor:
    def __init__(self, lines):
        check_floor(lines)
        self.wide = len(lines[0])
        self.high = len(lines)
        self.lines = list(lines)
        # A place's number is its index here.
        self.signs = "".join(lines)

    def has(self, cell):
        return is_among(cell, 0, len(self.signs) - 1) and self.signs[cell] != WALL

    def sign(self, cell):
        return self.signs[cell]

    def column(self, cell):
        return cell % self.wide

    def row(self, cell):
        return cell // self.wide

    def cells(self):
        return [place for place in range(len(self.signs)) if self.has(place)]

    def chargers(self):
        return [place for place in range(len(self.signs)) if self.signs[place] == CHARGER]

    def beside(self, cell):
        near = [cell - self.wide]
        # A number one less or one more may lie at the far end of another row.
        if self.column(cell) > 0:
            near.append(cell - 1)
        if self.column(cell) < self.wide - 1:
            near.append(cell + 1)
        near.append(cell + self.wide)
        return [place for place in near if self.has(place)]
