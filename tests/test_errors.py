"""The interface, errors: the classes, and how they stand under one another [4]."""

import unittest

from evenhues import errors
from evenhues.errors import HueError, TooGreat

OF_TEXT = [
    "NoStrip", "NoSizes", "NoNumber", "NoPlace", "NoHue", "NoDraft", "NoPaper", "NoFit", "NoLot", "NoRing",
    "NoRound", "NoStand", "NoText", "NoDeed", "NoLine",
]


class Classes(unittest.TestCase):

    def test_hue_error_stands_straight_under_value_error(self):
        self.assertEqual(HueError.__bases__, (ValueError,))

    def test_each_stands_straight_under_hue_error(self):
        for name in OF_TEXT + ["TooGreat"]:
            self.assertEqual(getattr(errors, name).__bases__, (HueError,), name)

    def test_none_stands_under_another_one(self):
        classes = [getattr(errors, name) for name in OF_TEXT + ["TooGreat"]]
        for one in classes:
            self.assertEqual([other for other in classes if issubclass(one, other)], [one])

    def test_the_others_are_made_of_a_text(self):
        for name in OF_TEXT:
            error = getattr(errors, name)("some words")
            self.assertEqual(str(error), "some words")

    def test_too_great_keeps_its_fields(self):
        error = TooGreat(41, 40)
        self.assertEqual((error.many, error.most), (41, 40))
        with self.assertRaises(HueError):
            raise error

    def test_too_great_of_any_two_numbers(self):
        error = TooGreat(10 ** 30 - 1, 0)
        self.assertEqual((error.many, error.most), (10 ** 30 - 1, 0))


if __name__ == "__main__":
    unittest.main()
