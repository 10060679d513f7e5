import itertools
import unittest

from floorways.errors import BadFloor, FloorError
from floorways.floors import Floor

LINES = [
    ".#+~",
    "|..+",
    "~#.#",
]
NO_NUMBERS = (True, False, None, "", "0", "1", [], [0], (), (0,), {}, {0: 0}, 0.0, 1.0, b"0", object())


def plain_beside(lines, cell):
    """The cells beside one, by columns and rows alone."""
    wide = len(lines[0])
    column, row = cell % wide, cell // wide
    found = []
    for other, sign in enumerate("".join(lines)):
        apart = abs(other % wide - column) + abs(other // wide - row)
        if apart == 1 and sign != "#":
            found.append(other)
    return found


class TestFloor(unittest.TestCase):
    def test_fields(self):
        floor = Floor(LINES)
        self.assertEqual((floor.wide, floor.high), (4, 3))
        self.assertEqual(floor.lines, LINES)
        self.assertIsInstance(floor.lines, list)

    def test_by_name(self):
        floor = Floor(lines=LINES)
        self.assertIs(floor.has(cell=0), True)
        self.assertEqual(floor.sign(cell=0), ".")
        self.assertEqual(floor.column(cell=5), 1)
        self.assertEqual(floor.row(cell=5), 1)
        self.assertEqual(floor.beside(cell=5), [4, 6])

    def test_cells_and_chargers_rise(self):
        floor = Floor(LINES)
        self.assertEqual(floor.cells(), [0, 2, 3, 4, 5, 6, 7, 8, 10])
        self.assertEqual(floor.chargers(), [2, 7])

    def test_no_chargers(self):
        self.assertEqual(Floor([".~|#"]).chargers(), [])

    def test_has(self):
        floor = Floor(LINES)
        for place in range(-30, 40):
            with self.subTest(place=place):
                self.assertIs(floor.has(place), place in (0, 2, 3, 4, 5, 6, 7, 8, 10))

    def test_has_not_what_is_far_beyond(self):
        floor = Floor(LINES)
        for place in (10 ** 30, -(10 ** 30), 12, 100, -1, -12):
            self.assertIs(floor.has(place), False)

    def test_has_nothing_but_numbers(self):
        floor = Floor(["...", "..."])
        for thing in NO_NUMBERS:
            with self.subTest(thing=thing):
                self.assertIs(floor.has(thing), False)

    def test_sign_of_each_cell(self):
        floor = Floor(LINES)
        signs = [floor.sign(cell) for cell in floor.cells()]
        self.assertEqual(signs, [".", "+", "~", "|", ".", ".", "+", "~", "."])

    def test_all_five_signs(self):
        floor = Floor([".#+~|"])
        self.assertEqual(floor.cells(), [0, 2, 3, 4])
        self.assertEqual(floor.chargers(), [2])
        self.assertEqual([floor.sign(cell) for cell in floor.cells()], [".", "+", "~", "|"])

    def test_one_cell_of_each_sign(self):
        for sign in ".+~|":
            with self.subTest(sign):
                floor = Floor([sign])
                self.assertEqual((floor.wide, floor.high, floor.lines), (1, 1, [sign]))
                self.assertEqual(floor.cells(), [0])
                self.assertEqual(floor.chargers(), [0] if sign == "+" else [])
                self.assertEqual(floor.beside(0), [])
                self.assertEqual((floor.sign(0), floor.column(0), floor.row(0)), (sign, 0, 0))

    def test_columns_and_rows(self):
        floor = Floor(LINES)
        for cell in floor.cells():
            with self.subTest(cell=cell):
                self.assertEqual((floor.row(cell), floor.column(cell)), divmod(cell, 4))
                self.assertEqual(LINES[floor.row(cell)][floor.column(cell)], floor.sign(cell))

    def test_beside(self):
        floor = Floor(LINES)
        beside = {cell: floor.beside(cell) for cell in floor.cells()}
        expected = {0: [4], 2: [3, 6], 3: [2, 7], 4: [0, 5, 8], 5: [4, 6], 6: [2, 5, 7, 10], 7: [3, 6], 8: [4], 10: [6]}
        self.assertEqual(beside, expected)

    def test_beside_not_round_the_ends_of_rows(self):
        floor = Floor(["..", "..", ".."])
        self.assertEqual([floor.beside(cell) for cell in floor.cells()],
                         [[1, 2], [0, 3], [0, 3, 4], [1, 2, 5], [2, 5], [3, 4]])

    def test_beside_on_every_floor_of_six_places(self):
        for wide in (1, 2, 3, 6):
            for signs in itertools.product(".#", repeat=6):
                text = "".join(signs)
                lines = [text[place:place + wide] for place in range(0, 6, wide)]
                if "." in text:
                    floor = Floor(lines)
                    for cell in floor.cells():
                        self.assertEqual(floor.beside(cell), plain_beside(lines, cell))

    def test_sizes(self):
        for high, wide in itertools.product((1, 2, 9, 10), repeat=2):
            with self.subTest(high=high, wide=wide):
                lines = ["." * wide] * high
                floor = Floor(lines)
                self.assertEqual((floor.high, floor.wide, floor.lines), (high, wide, lines))
                self.assertEqual(floor.cells(), list(range(high * wide)))
                self.assertIs(floor.has(high * wide - 1), True)
                self.assertIs(floor.has(high * wide), False)
                self.assertIs(floor.has(-1), False)
                for cell in floor.cells():
                    self.assertEqual(floor.beside(cell), plain_beside(lines, cell))
                    self.assertEqual((floor.row(cell), floor.column(cell)), divmod(cell, wide))

    def test_one_cell_among_walls(self):
        floor = Floor(["###", "##.", "###"])
        self.assertEqual(floor.cells(), [5])
        self.assertEqual(floor.beside(5), [])


class TestOwnLists(unittest.TestCase):
    def check(self, floor):
        self.assertEqual((floor.wide, floor.high, floor.lines), (4, 3, LINES))
        self.assertEqual(floor.cells(), [0, 2, 3, 4, 5, 6, 7, 8, 10])
        self.assertEqual(floor.chargers(), [2, 7])
        self.assertEqual(floor.beside(6), [2, 5, 7, 10])
        self.assertEqual(floor.sign(0), ".")

    def test_what_is_handed_in_is_not_changed(self):
        lines = list(LINES)
        self.check(Floor(lines))
        self.assertEqual(lines, LINES)

    def test_what_is_handed_in_may_change_later(self):
        lines = list(LINES)
        floor = Floor(lines)
        lines[0] = "####"
        self.check(floor)
        lines.append("....")
        self.check(floor)
        lines.clear()
        self.check(floor)

    def test_told_lists_are_the_askers_own(self):
        floor = Floor(LINES)
        for told in (floor.cells(), floor.chargers(), floor.beside(6)):
            told.append(1)
            told[0] = 99
            self.check(floor)
            told.clear()
            self.check(floor)

    def test_told_lists_are_new_each_time(self):
        floor = Floor(LINES)
        self.assertIsNot(floor.cells(), floor.cells())
        self.assertIsNot(floor.chargers(), floor.chargers())
        self.assertIsNot(floor.beside(6), floor.beside(6))

    def test_two_floors_are_apart(self):
        one = Floor(LINES)
        other = Floor(["+"])
        self.check(one)
        self.assertEqual((other.lines, other.cells(), other.chargers()), (["+"], [0], [0]))


class TestBadFloor(unittest.TestCase):
    def refused(self, lines):
        with self.assertRaises(FloorError) as caught:
            Floor(lines)
        self.assertEqual(type(caught.exception), BadFloor)

    def test_too_few_or_too_many_rows(self):
        self.refused([])
        self.refused(["."] * 11)
        self.refused(["." * 10] * 11)
        self.refused(["."] * 1000)

    def test_too_few_or_too_many_signs(self):
        self.refused([""])
        self.refused(["", ""])
        self.refused(["." * 11])
        self.refused(["." * 11] * 3)
        self.refused(["." * 1000])

    def test_rows_of_unlike_length(self):
        for lines in (["..", "."], [".", ".."], ["...", "...", ".."], [".", ""], ["", "."], ["." * 10, "." * 11]):
            with self.subTest(lines=lines):
                self.refused(lines)

    def test_other_signs(self):
        for sign in "-_:;,*xX0 /\\\n\t\x00'\"\u00b7\uff0e":
            with self.subTest(sign):
                self.refused([sign])
                self.refused([".." + sign, "..."])
                self.refused(["...", sign + ".."])
                self.refused(["...", ".." + sign])

    def test_walls_alone(self):
        for lines in (["#"], ["##########"], ["#", "#"], ["###", "###"], ["#" * 10] * 10):
            with self.subTest(lines=lines):
                self.refused(lines)

    def test_rows_that_are_no_texts(self):
        for row in (None, 0, 1, True, [], ["."], [".", "."], (".",), (".", "."), {}, {".": 1}, b".", b"..", 1.5):
            with self.subTest(row=row):
                self.refused([row])
                self.refused([row, ".."])
                self.refused(["..", row])
                self.refused(["..", row, ".."])

    def test_what_is_no_list(self):
        things = (
            None, True, False, 0, 1, 10, -1, 1.5, "", ".", "..", "...\n...", (), (".",), ("..", ".."), {}, {0: "."},
            {".": "."}, {"."}, b"..", object(), Floor, Floor(["."]),
        )
        for thing in things:
            with self.subTest(thing=thing):
                self.refused(thing)

    def test_what_is_walked_but_no_list(self):
        self.refused(iter(["."]))
        self.refused({".": 1}.keys())
        self.refused(range(3))

    def test_what_is_refused_is_not_changed(self):
        lines = ["...", "..", 7]
        self.refused(lines)
        self.assertEqual(lines, ["...", "..", 7])


if __name__ == "__main__":
    unittest.main()
