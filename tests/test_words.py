import sys
import unittest

from floorways.words import is_among, is_whole, number_of, number_text

WHOLE = (0, 1, -1, 7, -7, 999999, 10 ** 40, -(10 ** 40), 10 ** 5000)
NOT_WHOLE = (True, False, None, "", "1", "one", [], [1], (), (1,), {}, {1: 1}, 1.0, 0.5, b"1", object(), int, 1j)


class TestWhole(unittest.TestCase):
    def test_whole_numbers_of_any_size(self):
        for index, thing in enumerate(WHOLE):
            with self.subTest(index=index):
                self.assertIs(is_whole(thing), True)

    def test_nothing_else(self):
        for thing in NOT_WHOLE:
            with self.subTest(thing=thing):
                self.assertIs(is_whole(thing), False)

    def test_by_name(self):
        self.assertIs(is_whole(thing=3), True)
        self.assertIs(is_among(thing=3, least=3, most=3), True)


class TestAmong(unittest.TestCase):
    def test_at_the_bounds_and_just_beyond(self):
        for least, most in ((0, 10), (1, 60), (-5, -2), (-3, 3), (4, 4), (10 ** 30, 10 ** 30 + 2)):
            with self.subTest(least=least, most=most):
                self.assertIs(is_among(least - 1, least, most), False)
                self.assertIs(is_among(least, least, most), True)
                self.assertIs(is_among(most, least, most), True)
                self.assertIs(is_among(most + 1, least, most), False)

    def test_far_within_and_far_beyond(self):
        self.assertIs(is_among(30, 1, 60), True)
        self.assertIs(is_among(10 ** 40, 1, 60), False)
        self.assertIs(is_among(-(10 ** 40), 1, 60), False)
        self.assertIs(is_among(0, -(10 ** 40), 10 ** 40), True)

    def test_none_between_bounds_that_cross(self):
        for thing in (0, 1, 2, 3, 4):
            self.assertIs(is_among(thing, 3, 1), False)

    def test_things_that_are_no_whole_numbers(self):
        for thing in NOT_WHOLE:
            with self.subTest(thing=thing):
                self.assertIs(is_among(thing, 0, 1), False)
                self.assertIs(is_among(thing, -(10 ** 40), 10 ** 40), False)


class TestNumberText(unittest.TestCase):
    def test_written_by_figures(self):
        pairs = (
            (0, "0"), (1, "1"), (9, "9"), (10, "10"), (100, "100"), (1000000, "1000000"),
            (-1, "-1"), (-10, "-10"), (-999999, "-999999"),
        )
        for number, text in pairs:
            with self.subTest(text):
                self.assertEqual(number_text(number), text)
                self.assertEqual(number_text(number=number), text)

    def test_small_ones_either_way(self):
        for number in range(-1200, 1201):
            self.assertEqual(number_text(number), str(number))

    def test_many_figures(self):
        for many in range(1, 400):
            self.assertEqual(number_text(10 ** many), "1" + "0" * many)
            self.assertEqual(number_text(10 ** many - 1), "9" * many)
            self.assertEqual(number_text(-(10 ** many)), "-1" + "0" * many)
            self.assertEqual(number_text(10 ** many + 10 ** (many // 2)), str(10 ** many + 10 ** (many // 2)))

    def test_more_figures_than_python_writes_at_once(self):
        many = max(5000, sys.get_int_max_str_digits() + 1)
        self.assertEqual(number_text(10 ** many), "1" + "0" * many)
        self.assertEqual(number_text(-(10 ** many - 1)), "-" + "9" * many)
        self.assertEqual(number_text(7 * 10 ** many + 12), "7" + "0" * (many - 2) + "12")


class TestNumberOf(unittest.TestCase):
    def test_one_to_six_figures(self):
        pairs = (
            ("0", 0), ("1", 1), ("9", 9), ("10", 10), ("42", 42), ("305", 305), ("1000", 1000), ("98765", 98765),
            ("100000", 100000), ("999999", 999999),
        )
        for text, number in pairs:
            with self.subTest(text):
                self.assertEqual(number_of(text), number)
                self.assertIs(is_whole(number_of(text)), True)
        self.assertEqual(number_of(text="12"), 12)

    def test_each_figure(self):
        for figure in range(10):
            self.assertEqual(number_of(str(figure)), figure)
            self.assertEqual(number_of("1" + str(figure)), 10 + figure)

    def test_seven_figures_and_more(self):
        for text in ("1000000", "1234567", "9999999", "1" * 7, "1" * 100, "1" * 5000):
            self.assertIsNone(number_of(text))

    def test_a_nought_ahead(self):
        for text in ("00", "01", "007", "000000", "012345", "0000000"):
            with self.subTest(text):
                self.assertIsNone(number_of(text))

    def test_the_empty_text(self):
        self.assertIsNone(number_of(""))

    def test_signs_that_are_no_figures(self):
        texts = (
            "-1", "-0", "-", "--1", "+1", "1-", "1.0", "1,0", "1_0", "0x1", "a", "1a", "a1", "1e3",
            "/", ":", "1/", "1:", " ", " 1", "1 ", "1 2", "\t1", "1\n", "\n", "1\x00",
        )
        for text in texts:
            with self.subTest(text):
                self.assertIsNone(number_of(text))

    def test_figures_of_other_scripts(self):
        for text in ("\u00b2", "\u0661", "1\u0661", "\u0967\u0968", "\uff11", "\u2460", "\u00bd", "\U0001d7d9"):
            with self.subTest(text):
                self.assertIsNone(number_of(text))

    def test_written_and_read_again(self):
        for number in list(range(3000)) + [99999, 100000, 999999]:
            self.assertEqual(number_of(number_text(number)), number)
        for number in (-1, -10, 1000000, 10 ** 9):
            self.assertIsNone(number_of(number_text(number)))


if __name__ == "__main__":
    unittest.main()
