import unittest

from floorways import errors

NAMES = (
    "BadFloor", "BadKind", "BadCell", "BadCharge", "BadStops", "BadWay", "Empty", "NoCarrier", "NoTask",
    "Meets", "Taken", "Busy", "NoReserve", "Closed", "Jammed",
)
PLAIN = tuple(name for name in NAMES if name not in ("Meets", "Jammed", "Closed"))


class TestErrors(unittest.TestCase):
    def test_floor_error_is_a_value_error(self):
        self.assertEqual(errors.FloorError.__bases__, (ValueError,))

    def test_each_stands_straight_under_floor_error(self):
        for name in NAMES:
            with self.subTest(name):
                self.assertEqual(getattr(errors, name).__bases__, (errors.FloorError,))

    def test_none_is_another_name_of_another_one(self):
        classes = [getattr(errors, name) for name in NAMES]
        self.assertEqual(len(set(classes)), len(NAMES))
        for one in classes:
            for other in classes:
                self.assertEqual(issubclass(one, other), one is other)

    def test_each_bears_its_name(self):
        for name in NAMES + ("FloorError",):
            self.assertEqual(getattr(errors, name).__name__, name)

    def test_plain_ones_take_free_words(self):
        for name in PLAIN + ("FloorError",):
            with self.subTest(name):
                with self.assertRaises(errors.FloorError):
                    raise getattr(errors, name)("some words")

    def test_meets_and_jammed_have_other(self):
        for name in ("Meets", "Jammed"):
            made = getattr(errors, name)
            for number in (0, 7, 10 ** 30):
                with self.subTest(name, number=number):
                    with self.assertRaises(made) as caught:
                        raise made(number)
                    self.assertEqual(caught.exception.other, number)
            self.assertEqual(made(other=3).other, 3)

    def test_closed_has_the_very_shut(self):
        shut = {(0, 3): 5}
        with self.assertRaises(errors.Closed) as caught:
            raise errors.Closed(shut)
        self.assertIs(caught.exception.shut, shut)
        self.assertEqual(shut, {(0, 3): 5})
        self.assertIs(errors.Closed(shut=shut).shut, shut)

    def test_those_three_are_made_of_just_that(self):
        for name in ("Meets", "Jammed", "Closed"):
            with self.subTest(name):
                with self.assertRaises(TypeError):
                    getattr(errors, name)()
                with self.assertRaises(TypeError):
                    getattr(errors, name)(1, 2)

    def test_values_of_two_errors_are_their_own(self):
        one = errors.Meets(1)
        other = errors.Meets(2)
        self.assertEqual((one.other, other.other), (1, 2))


if __name__ == "__main__":
    unittest.main()
