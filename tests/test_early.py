"""Point [62], and what [65] says of early lots."""

import unittest

from evenhues.early import early, figures, is_early
from evenhues.errors import NoNumber, NoPlace
from evenhues.lots import is_bare, is_lot

from tests.helping import BIG, NO_WHOLES, Told, wrong_numbers
from tests.test_lots import full_rows

# Known from elsewhere: the early lots of the size 3 begin so.
OF_THREE = (0, 1, 3, 4, 9, 10, 12, 13, 27, 28, 30, 31, 36, 37, 39)
NO_PLACES = [-1, 40, 41, BIG, -BIG] + NO_WHOLES


def taken_place_by_place(size):
    """The early lot of the size below forty, by the words of the document."""
    lot = ()
    for place in range(40):
        if not full_rows(size, lot + (place,)):
            lot += (place,)
    return lot


EARLY = {size: taken_place_by_place(size) for size in range(3, 9)}


def figures_counted(size, place):
    """The figures of the place, found by trying them in turn, the last one first."""
    for many in (1, 2, 3, 4):
        if place < size ** many:
            return tuple(place // size ** at % size for at in range(many))


class Early(Told, unittest.TestCase):

    def test_of_three(self):
        self.told(OF_THREE, early, 3, 40)

    def test_place_by_place(self):
        for size in range(3, 9):
            for length in range(41):
                self.told(tuple(place for place in EARLY[size] if place < length), early, size, length)

    def test_is_early(self):
        for size in range(3, 9):
            for place in range(40):
                self.told(place in EARLY[size], is_early, size, place)
                self.assertIs(is_early(size, place), place in early(size, 40))

    def test_they_are_bare_lots(self):
        for size in range(3, 9):
            for length in range(41):
                self.assertTrue(is_lot(early(size, length)))
                self.assertTrue(is_bare(size, early(size, length)))


class Figures(Told, unittest.TestCase):

    def test_some_by_hand(self):
        for size in (3, 5, 7):
            self.told((0,), figures, size, 0)
            self.told((size - 1,), figures, size, size - 1)
            self.told((0, 1), figures, size, size)
        self.told((0, 1, 1, 1), figures, 3, 39)
        self.told((2, 2, 2), figures, 3, 26)
        self.told((4, 2, 1), figures, 5, 39)
        self.told((4, 5), figures, 7, 39)

    def test_each_place(self):
        for size in (3, 5, 7):
            for place in range(40):
                self.told(figures_counted(size, place), figures, size, place)

    def test_early_are_just_the_places_without_the_greatest_figure(self):
        for size in (3, 5, 7):
            for place in range(40):
                self.assertIs(is_early(size, place), size - 1 not in figures(size, place))


class Refused(Told, unittest.TestCase):

    def test_no_size_ahead_of_the_rest(self):
        for size in wrong_numbers(3, 8):
            for other in [0, 39, 40, -1, 41, None, True]:
                self.refused(NoNumber, early, size, other)
                self.refused(NoNumber, is_early, size, other)

    def test_two_is_no_size_here(self):
        self.refused(NoNumber, early, 2, 0)
        self.refused(NoNumber, is_early, 2, 0)
        self.refused(NoNumber, figures, 2, 0)

    def test_no_length(self):
        for length in wrong_numbers(0, 40):
            for size in range(3, 9):
                self.refused(NoNumber, early, size, length)

    def test_no_place(self):
        for place in NO_PLACES:
            for size in range(3, 9):
                self.refused(NoPlace, is_early, size, place)
            for size in (3, 5, 7):
                self.refused(NoPlace, figures, size, place)

    def test_no_size_of_figures(self):
        for size in [4, 6, 8, 2, 9, 1, 0, -3, BIG, -BIG, (3,), [3], "3", {3: 3}] + NO_WHOLES:
            for place in [0, 39, 40, -1, None, True]:
                self.refused(NoNumber, figures, size, place)


if __name__ == "__main__":
    unittest.main()
