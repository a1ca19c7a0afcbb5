"""Points [22] and [23]: all strips that fit, and the greatest length."""

import itertools
import unittest

from evenhues.errors import NoNumber, NoSizes, TooGreat
from evenhues.farthest import all_strips, farthest, first_strip, strips_many, tally

from tests.helping import Told, wrong_numbers, wrong_rows
from tests.test_fits import NO_SIZES

WITH_LENGTH = (strips_many, all_strips, first_strip)


def product(sizes):
    told = 1
    for size in sizes:
        told *= size
    return told


ALL_SIZES = [sizes for many in range(1, 5) for sizes in itertools.product(range(2, 9), repeat=many)]
SMALL = [sizes for sizes in ALL_SIZES if product(sizes) <= 12]
GREAT = [sizes for sizes in ALL_SIZES if product(sizes) > 12]

# Known from elsewhere: one less than the van der Waerden numbers of the sizes.
GREATEST = {
    (2, 2): 2, (2, 3): 5, (2, 4): 6, (2, 5): 9, (2, 6): 10, (3, 3): 8, (3, 4): 17, (2, 2, 2): 3, (2, 2, 3): 6,
}


def is_fit(sizes, strip):
    return not wrong_rows(sizes, strip)


def levels(sizes):
    """All strips that fit, by their length, each looked at row by row."""
    told = [[()]]
    while told[-1]:
        longer = [strip + (hue,) for strip in told[-1] for hue in range(len(sizes))]
        told.append(sorted(strip for strip in longer if is_fit(sizes, strip)))
    return told[:-1]


class Farthest(Told, unittest.TestCase):

    def test_all_small_sizes_in_every_order(self):
        for sizes in SMALL:
            wanted = levels(sizes)
            greatest = len(wanted) - 1
            self.told(greatest, farthest, sizes)
            self.told([len(strips) for strips in wanted], tally, sizes)
            for length in range(greatest + 2):
                strips = wanted[length] if length <= greatest else []
                self.told(strips, all_strips, sizes, length)
                self.told(len(strips), strips_many, sizes, length)
                self.told(strips[0] if strips else None, first_strip, sizes, length)

    def test_hues_put_in_all_ways(self):
        for sizes in SMALL:
            for length in range(7):
                ways = itertools.product(range(len(sizes)), repeat=length)
                self.told([strip for strip in ways if is_fit(sizes, strip)], all_strips, sizes, length)

    def test_known_greatest_lengths(self):
        for sizes in SMALL:
            if len(sizes) > 1:
                self.told(GREATEST[tuple(sorted(sizes))], farthest, sizes)

    def test_far_beyond_there_is_none(self):
        for sizes in SMALL:
            self.told(0, strips_many, sizes, 40)
            self.told([], all_strips, sizes, 40)
            self.told(None, first_strip, sizes, 40)

    def test_some_by_hand(self):
        self.told([()], all_strips, (3, 3), 0)
        self.told((), first_strip, (2,), 0)
        self.told([(0, 0, 1, 1, 0, 0, 1, 1), (0, 1, 0, 1, 1, 0, 1, 0), (0, 1, 1, 0, 0, 1, 1, 0),
                   (1, 0, 0, 1, 1, 0, 0, 1), (1, 0, 1, 0, 0, 1, 0, 1), (1, 1, 0, 0, 1, 1, 0, 0)],
                  all_strips, (3, 3), 8)
        self.told([1, 1, 1], tally, (3,))
        self.told([1, 2, 2], tally, (2, 2))

    def test_tally_against_strips_many(self):
        for sizes in SMALL:
            counts = tally(sizes)
            self.assertEqual(len(counts), farthest(sizes) + 1)
            self.assertEqual(counts, [strips_many(sizes, length) for length in range(len(counts))])


class Refused(Told, unittest.TestCase):

    def too_great(self, sizes, call, *args):
        error = self.refused(TooGreat, call, sizes, *args)
        self.assertEqual((error.many, error.most), (product(sizes), 12))

    def test_sizes_that_come_to_more_than_12(self):
        for sizes in GREAT:
            self.too_great(sizes, farthest)
            self.too_great(sizes, tally)
            for call in WITH_LENGTH:
                self.too_great(sizes, call, 0)

    def test_too_great_ahead_of_the_length(self):
        for sizes in [(2, 7), (7, 2), (4, 4), (3, 5), (2, 2, 4), (2, 2, 2, 2), (8, 8, 8, 8)]:
            for call in WITH_LENGTH:
                for length in wrong_numbers(0, 40):
                    self.too_great(sizes, call, length)

    def test_no_sizes_ahead_of_all(self):
        for thing in NO_SIZES:
            self.refused(NoSizes, farthest, thing)
            self.refused(NoSizes, tally, thing)
            for call in WITH_LENGTH:
                self.refused(NoSizes, call, thing, 0)
                self.refused(NoSizes, call, thing, 41)

    def test_no_length(self):
        for length in wrong_numbers(0, 40):
            for call in WITH_LENGTH:
                for sizes in [(2,), (3, 4), (2, 2, 3)]:
                    self.refused(NoNumber, call, sizes, length)


class WhatThereforeHolds(Told, unittest.TestCase):

    def test_the_order_is_all_one(self):
        for sizes in SMALL:
            for other in itertools.permutations(sizes):
                self.assertEqual(farthest(sizes), farthest(other))

    def test_no_less_where_one_is_greater(self):
        for sizes in SMALL:
            for place in range(len(sizes)):
                other = sizes[:place] + (sizes[place] + 1,) + sizes[place + 1:]
                if other in SMALL:
                    self.assertLessEqual(farthest(sizes), farthest(other))

    def test_one_size_alone(self):
        for size in range(2, 9):
            self.assertEqual(farthest((size,)), size - 1)


if __name__ == "__main__":
    unittest.main()
