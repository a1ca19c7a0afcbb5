"""Points [21] and [23]: sizes, and strips that fit."""

import itertools
import unittest

from evenhues.errors import NoSizes, NoStrip
from evenhues.fits import are_sizes, first_wrong, fits
from evenhues.strips import backward, exchanged, thinned

from tests.helping import (
    BIG, NUMBERS, STRANGE, Told, mixed_strips, places, rows_gone_through, short_strips,
)

SOME_SIZES = [(2,), (8,), (3, 3), (2, 3), (3, 2), (8, 2), (4, 3), (2, 2, 2), (3, 2, 4), (3, 3, 3, 3), (2, 8, 2, 8)]
NO_SIZES = STRANGE + NUMBERS + [
    (), (3, 3, 3, 3, 3), (1,), (9,), (3, 1), (9, 3), (3, 3, 1), (3, 3, 3, 9), (0,), (-3,), (BIG,), (3,) * 1000,
    (3, None), (None, 3), ([3],), (3, [3]), ("3",), (3, True), (False, 3), [3], [3, 3], {3: 3},
]
NO_STRIPS = STRANGE + NUMBERS + [(0,) * 41, (4,), (0, -1)]


def wrong_gone_through(sizes, strip):
    """What is wrong first, of every place and every row of every hue."""
    for place, hue in enumerate(strip):
        if hue >= len(sizes):
            return ("hue", place)
    found = []
    for hue, size in enumerate(sizes):
        for row in rows_gone_through(len(strip), size):
            if all(strip[place] == hue for place in places(row, size)):
                found.append(row)
    return ("row",) + min(found) if found else None


class AreSizes(Told, unittest.TestCase):

    def test_sizes(self):
        for many in range(1, 5):
            for sizes in itertools.product((2, 3, 8), repeat=many):
                self.told(True, are_sizes, sizes)
        for size in range(2, 9):
            self.told(True, are_sizes, (size,))

    def test_none_and_five(self):
        self.told(False, are_sizes, ())
        self.told(False, are_sizes, (3, 3, 3, 3, 3))

    def test_a_wrong_one_at_each_place(self):
        for wrong in [1, 9, 0, -2, True, False, None, "3", "", [3], (3,), {}, BIG, -BIG]:
            for many in range(1, 5):
                for place in range(many):
                    self.told(False, are_sizes, (3,) * place + (wrong,) + (3,) * (many - place - 1))

    def test_things_of_other_kinds(self):
        for thing in NO_SIZES:
            self.told(False, are_sizes, thing)


class Fits(Told, unittest.TestCase):

    def both(self, sizes, strip):
        wanted = wrong_gone_through(sizes, strip)
        self.told(wanted, first_wrong, sizes, strip)
        self.told(wanted is None, fits, sizes, strip)

    def test_the_strip_without_places_fits(self):
        for sizes in SOME_SIZES:
            self.told(True, fits, sizes, ())
            self.told(None, first_wrong, sizes, ())

    def test_against_all_rows(self):
        for sizes in SOME_SIZES:
            for strip in short_strips(4, 4) + short_strips(2, 7) + mixed_strips(12) + mixed_strips(12, hues=len(sizes)):
                self.both(sizes, strip)

    def test_some_by_hand(self):
        self.told(None, first_wrong, (3, 3), (0, 0, 1, 1, 0, 0, 1, 1))
        self.told(True, fits, (3, 3), (0, 0, 1, 1, 0, 0, 1, 1))
        self.told(("row", 0, 4), first_wrong, (3, 3), (0, 0, 1, 1, 0, 0, 1, 1, 0))
        self.told(("hue", 2), first_wrong, (3, 3), (0, 1, 2))
        self.told(False, fits, (3,), (0, 1))

    def test_another_hue_at_any_place(self):
        good = (0, 0, 1, 1, 0, 0, 1, 1)
        for place in range(8):
            for hue in (2, 3):
                self.told(("hue", place), first_wrong, (3, 3), good[:place] + (hue,) + good[place + 1:])
        self.told(("hue", 1), first_wrong, (8,), (0, 1, 0, 2, 3))

    def test_a_hue_is_told_ahead_of_a_row(self):
        self.told(("hue", 39), first_wrong, (2, 2), (0,) * 39 + (2,))
        self.told(("hue", 3), first_wrong, (3, 3, 3), (0, 0, 0, 3))

    def test_a_row_in_each_hue_anywhere(self):
        # Hue 3 with its great size lies round a row of each other hue.
        for hue in range(3):
            for first, step in [(0, 1), (2, 1), (1, 2), (0, 3), (4, 1)]:
                strip = [3] * 7
                for place in places((first, step), 3):
                    strip[place] = hue
                self.told(("row", first, step), first_wrong, (3, 3, 3, 8), tuple(strip))

    def test_the_first_row_across_hues(self):
        self.told(("row", 0, 2), first_wrong, (2, 3), (1, 0, 1, 0, 1))
        self.told(("row", 0, 3), first_wrong, (2, 3), (0, 1, 1, 0, 1))
        self.told(("row", 0, 1), first_wrong, (3, 2), (1, 1, 0, 0, 0))
        self.told(("row", 1, 1), first_wrong, (3, 3), (1, 0, 0, 0, 1))

    def test_each_hue_by_its_own_size(self):
        self.told(True, fits, (4, 2), (0, 0, 0, 1))
        self.told(False, fits, (2, 4), (0, 0, 0, 1))
        self.told(True, fits, (8,), (0,) * 7)
        self.told(("row", 0, 1), first_wrong, (8,), (0,) * 8)

    def test_no_sizes(self):
        for call in (fits, first_wrong):
            for thing in NO_SIZES:
                self.refused(NoSizes, call, thing, ())
                self.refused(NoSizes, call, thing, (4,))

    def test_no_strip(self):
        for call in (fits, first_wrong):
            for thing in NO_STRIPS:
                self.refused(NoStrip, call, (3, 3), thing)


class WhatThereforeHolds(Told, unittest.TestCase):

    def fitting(self):
        for sizes in SOME_SIZES:
            for strip in short_strips(len(sizes), 5):
                if fits(sizes, strip):
                    yield sizes, strip

    def test_backward_thinned_and_cut(self):
        for sizes, strip in self.fitting():
            self.assertTrue(fits(sizes, backward(strip)))
            for length in range(len(strip)):
                self.assertTrue(fits(sizes, strip[:length]))
            for first, step in itertools.product(range(3), range(1, 4)):
                self.assertTrue(fits(sizes, thinned(strip, first, step)))

    def test_exchanged(self):
        for sizes in [(3, 3), (2, 4), (3, 2, 4), (2, 8, 3, 4)]:
            for order in itertools.permutations(range(len(sizes))):
                hues = order + tuple(range(len(sizes), 4))
                other = [0] * len(sizes)
                for hue in range(len(sizes)):
                    other[hues[hue]] = sizes[hue]
                for strip in short_strips(len(sizes), 4):
                    self.assertEqual(fits(sizes, strip), fits(tuple(other), exchanged(strip, hues)))


if __name__ == "__main__":
    unittest.main()
