"""Point [12]: sizes, lengths and even rows."""

import unittest

from evenhues.errors import NoNumber, NoPlace
from evenhues.rows import places_of, rows_at, rows_in, rows_many

from tests.helping import BIG, NO_WHOLES, Told, places, rows_gone_through, wrong_numbers

LENGTHS = [0, 1, 2, 3, 7, 8, 9, 15, 16, 39, 40]


class PlacesOf(Told, unittest.TestCase):

    def test_places(self):
        self.told((0, 1), places_of, 0, 1, 2)
        self.told((3, 5, 7), places_of, 3, 2, 3)
        self.told((40, 80, 120, 160, 200, 240, 280, 320), places_of, 40, 40, 8)
        self.told((0, 40), places_of, 0, 40, 2)
        self.told((40, 41), places_of, 40, 1, 2)

    def test_each_size(self):
        for size in range(2, 9):
            for first in range(41):
                for step in (1, 2, 17, 40):
                    self.told(tuple(places((first, step), size)), places_of, first, step, size)

    def test_no_number(self):
        for first in wrong_numbers(0, 40):
            self.refused(NoNumber, places_of, first, 1, 2)
        for step in wrong_numbers(1, 40):
            self.refused(NoNumber, places_of, 0, step, 2)
        for size in wrong_numbers(2, 8):
            self.refused(NoNumber, places_of, 0, 1, size)


class RowsIn(Told, unittest.TestCase):

    def test_all_rows_in_order(self):
        for size in range(2, 9):
            for length in range(41):
                wanted = rows_gone_through(length, size)
                self.assertEqual(wanted, sorted(wanted))
                self.told(wanted, rows_in, length, size)
                self.told(len(wanted), rows_many, length, size)

    def test_some_by_hand(self):
        self.told([], rows_in, 0, 2)
        self.told([], rows_in, 1, 2)
        self.told([(0, 1)], rows_in, 2, 2)
        self.told([(0, 1), (0, 2), (1, 1), (2, 1)], rows_in, 5, 3)
        self.told([], rows_in, 7, 8)
        self.told([(0, 1)], rows_in, 8, 8)
        self.told(780, rows_many, 40, 2)
        self.told(0, rows_many, 0, 8)

    def test_no_number(self):
        for call in (rows_in, rows_many):
            for length in wrong_numbers(0, 40):
                self.refused(NoNumber, call, length, 3)
            for size in wrong_numbers(2, 8):
                self.refused(NoNumber, call, 40, size)
                self.refused(NoNumber, call, 0, size)


class RowsAt(Told, unittest.TestCase):

    def test_all_rows_that_have_the_place(self):
        for size in range(2, 9):
            for length in LENGTHS:
                rows = rows_gone_through(length, size)
                for place in range(length):
                    wanted = [row for row in rows if place in places(row, size)]
                    self.told(wanted, rows_at, length, size, place)

    def test_some_by_hand(self):
        self.told([], rows_at, 1, 2, 0)
        self.told([(0, 1), (0, 2), (1, 1), (2, 1)], rows_at, 5, 3, 2)
        self.told([(0, 1), (0, 2)], rows_at, 5, 3, 0)

    def test_no_place(self):
        for length in (0, 1, 5, 40):
            for place in [-1, length, length + 1, BIG, -BIG] + NO_WHOLES:
                self.refused(NoPlace, rows_at, length, 2, place)

    def test_the_left_one_first(self):
        for length in wrong_numbers(0, 40):
            self.refused(NoNumber, rows_at, length, 3, -1)
            self.refused(NoNumber, rows_at, length, 3, 0)
        for size in wrong_numbers(2, 8):
            self.refused(NoNumber, rows_at, 5, size, 5)
            self.refused(NoNumber, rows_at, 5, size, 0)


if __name__ == "__main__":
    unittest.main()
