"""Point [74], and [75] over all rings that fit small sizes."""

import itertools
import math
import unittest

from evenhues.errors import NoNumber, NoSizes, TooGreat
from evenhues.fits import fits
from evenhues.ringlists import all_rings, first_ring, rings_many
from evenhues.rings import fits_round, laid, strided, turned
from evenhues.strips import backward

from tests.helping import Told, wrong_numbers
from tests.test_farthest import GREAT, SMALL, levels, product
from tests.test_fits import NO_SIZES
from tests.test_rings import is_prime, wrong_round

ALL = (rings_many, all_rings, first_ring)
LENGTHS = range(1, 13)
NO_LENGTHS = [0, 13, 40, 41, -1, True, False] + wrong_numbers(1, 12)


class RingLists(Told, unittest.TestCase):

    def all_three(self, wanted, sizes, length):
        self.told(len(wanted), rings_many, sizes, length)
        self.told(wanted, all_rings, sizes, length)
        self.told(wanted[0] if wanted else None, first_ring, sizes, length)

    def test_all_hues_gone_through(self):
        for sizes in SMALL:
            for length in LENGTHS:
                if len(sizes) ** length <= 256:
                    ways = itertools.product(range(len(sizes)), repeat=length)
                    self.all_three([ring for ring in ways if wrong_round(sizes, ring) is None], sizes, length)

    def test_strips_that_fit_looked_at_as_rings(self):
        for sizes in SMALL:
            strips = levels(sizes)
            for length in LENGTHS:
                found = strips[length] if length < len(strips) else []
                self.all_three([ring for ring in found if wrong_round(sizes, ring) is None], sizes, length)

    def test_some_by_hand(self):
        self.all_three([(0,)], (2,), 1)
        self.all_three([], (2,), 2)
        self.all_three([(0,), (1,)], (3, 3), 1)
        self.all_three([(0, 1), (1, 0)], (2, 2), 2)
        self.all_three([(0, 0), (0, 1), (1, 0), (1, 1)], (3, 3), 2)
        self.all_three([(0, 1, 2), (0, 2, 1), (1, 0, 2), (1, 2, 0), (2, 0, 1), (2, 1, 0)], (2, 2, 2), 3)
        self.all_three([(0, 0, 1, 1), (0, 1, 0, 1), (0, 1, 1, 0), (1, 0, 0, 1), (1, 0, 1, 0), (1, 1, 0, 0)], (3, 3), 4)
        self.all_three([(0,) * 7], (8,), 7)
        self.all_three([], (8,), 8)
        self.all_three([], (3, 3), 12)


class WhatThereforeHolds(unittest.TestCase):

    def test_turned_strided_and_backward(self):
        for sizes in SMALL:
            for length in LENGTHS:
                rings = all_rings(sizes, length)
                self.assertEqual(sorted(backward(ring) for ring in rings), rings)
                for place in range(length):
                    self.assertEqual(sorted(turned(ring, place) for ring in rings), rings)
                for by in range(1, length + 1):
                    if math.gcd(by, length) == 1:
                        self.assertEqual(sorted(strided(ring, by) for ring in rings), rings)
                self.assertTrue(all(fits_round(sizes, ring) and fits(sizes, ring) for ring in rings))

    def test_laid_as_often_as_the_least_size_less_1(self):
        many = 0
        for sizes in SMALL:
            for length in LENGTHS:
                if is_prime(length) and length >= max(sizes):
                    for ring in all_rings(sizes, length):
                        many += 1
                        self.assertTrue(fits(sizes, laid(ring, min(sizes) - 1)))
        self.assertGreater(many, 20)


class Refused(Told, unittest.TestCase):

    def test_no_sizes_ahead_of_all(self):
        for call in ALL:
            for thing in NO_SIZES:
                for length in [1, 12, 0, 13, None]:
                    self.refused(NoSizes, call, thing, length)

    def test_sizes_that_come_to_more_than_12(self):
        for call in ALL:
            for sizes in GREAT[::3] + [(2, 7), (7, 2), (4, 4), (2, 2, 4), (2, 2, 2, 2)]:
                for length in [1, 12, 0, 13, True, None]:
                    error = self.refused(TooGreat, call, sizes, length)
                    self.assertEqual((error.many, error.most), (product(sizes), 12))

    def test_no_length(self):
        for call in ALL:
            for sizes in [(2,), (3, 3), (3, 4), (2, 2, 3)]:
                for length in NO_LENGTHS:
                    self.refused(NoNumber, call, sizes, length)


if __name__ == "__main__":
    unittest.main()
