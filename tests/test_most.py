"""Point [63], the end of [64], and [65]: the greatest bare lots, and the smallest that hit."""

import functools
import itertools
import unittest

from evenhues.early import early
from evenhues.errors import NoNumber, TooGreat
from evenhues.lots import hits, is_bare, is_lot
from evenhues.most import all_most, bare_many, fewest_hits, first_hit, first_most, most

from tests.helping import BIG, Told, places, rows_gone_through, wrong_numbers

ALL = (bare_many, most, all_most, first_most, fewest_hits, first_hit)
SIZES = range(2, 9)
LENGTHS = range(13)

# Known from elsewhere: the most places below n, n from 0 on, without three evenly spaced ones.
MOST_OF_THREE = [0, 1, 2, 2, 3, 4, 4, 4, 4, 5, 5, 6, 6]


@functools.lru_cache(maxsize=None)
def lots_below(length):
    return [lot for many in range(length + 1) for lot in itertools.combinations(range(length), many)]


def row_sets(size, length):
    return [set(places(row, size)) for row in rows_gone_through(length, size)]


@functools.lru_cache(maxsize=None)
def bare_gone_through(size, length):
    """All bare lots below the length, each lot looked at row by row."""
    rows = row_sets(size, length)
    return [lot for lot in lots_below(length) if not any(row <= set(lot) for row in rows)]


@functools.lru_cache(maxsize=None)
def hitting_gone_through(size, length):
    """All lots of places below 12 that hit the length, also those with places beyond it."""
    rows = row_sets(size, length)
    return [lot for lot in lots_below(12) if all(row & set(lot) for row in rows)]


class Most(Told, unittest.TestCase):

    def test_all_lots_gone_through(self):
        for size in SIZES:
            for length in LENGTHS:
                bare = bare_gone_through(size, length)
                many = max(len(lot) for lot in bare)
                greatest = sorted(lot for lot in bare if len(lot) == many)
                self.told(len(bare), bare_many, size, length)
                self.told(many, most, size, length)
                self.told(greatest, all_most, size, length)
                self.told(greatest[0], first_most, size, length)

    def test_known_numbers(self):
        for length in LENGTHS:
            self.told(MOST_OF_THREE[length], most, 3, length)

    def test_some_by_hand(self):
        self.told([()], all_most, 3, 0)
        self.told((), first_most, 8, 0)
        self.told(1, bare_many, 2, 0)
        self.told(0, most, 2, 0)
        self.told([(0,), (1,), (2,)], all_most, 2, 3)
        self.told(4, bare_many, 2, 3)
        self.told([(0, 1, 3), (0, 2, 3)], all_most, 3, 4)
        self.told(7, bare_many, 3, 3)
        self.told(128, bare_many, 8, 7)
        self.told([tuple(range(7))], all_most, 8, 7)
        self.told(255, bare_many, 8, 8)

    def test_the_lists_rise(self):
        for size in SIZES:
            for length in LENGTHS:
                lots = all_most(size, length)
                self.assertTrue(all(one < other for one, other in zip(lots, lots[1:])))
                self.assertTrue(all(is_lot(lot) and is_bare(size, lot) for lot in lots))


class Hits(Told, unittest.TestCase):

    def test_all_lots_gone_through(self):
        for size in SIZES:
            for length in LENGTHS:
                hitting = hitting_gone_through(size, length)
                few = min(len(lot) for lot in hitting)
                self.told(few, fewest_hits, size, length)
                self.told(min(lot for lot in hitting if len(lot) == few), first_hit, size, length)

    def test_some_by_hand(self):
        self.told(0, fewest_hits, 2, 0)
        self.told((), first_hit, 3, 2)
        self.told((0,), first_hit, 3, 3)
        self.told(1, fewest_hits, 3, 3)
        self.told((1,), first_hit, 3, 4)
        self.told((2,), first_hit, 3, 5)
        self.told((0, 1, 2), first_hit, 2, 4)
        self.told((4,), first_hit, 8, 12)


class WhatThereforeHolds(Told, unittest.TestCase):

    def test_it_hits_just_where_the_others_are_bare(self):
        for size in (2, 3, 5):
            for length in (0, 1, 4, 7, 10):
                for lot in lots_below(10)[::3]:
                    others = tuple(place for place in range(length) if place not in lot)
                    self.assertIs(hits(size, length, lot), is_bare(size, others))

    def test_the_least_and_the_most_come_to_the_length(self):
        for size in SIZES:
            for length in LENGTHS:
                self.assertEqual(fewest_hits(size, length) + most(size, length), length)
                self.assertTrue(hits(size, length, first_hit(size, length)))

    def test_no_more_than_one_more_by_a_place_more(self):
        for size in SIZES:
            for length in LENGTHS[1:]:
                self.assertIn(most(size, length) - most(size, length - 1), (0, 1))

    def test_early_lots_are_bare_and_no_greater(self):
        for size in SIZES[1:]:
            for length in LENGTHS:
                self.assertTrue(is_bare(size, early(size, length)))
                self.assertLessEqual(len(early(size, length)), most(size, length))


class Refused(Told, unittest.TestCase):

    def test_lengths_above_12(self):
        for call in ALL:
            for size in SIZES:
                for length in range(13, 41):
                    error = self.refused(TooGreat, call, size, length)
                    self.assertEqual((error.many, error.most), (length, 12))

    def test_no_length(self):
        for call in ALL:
            for size in (2, 3, 8):
                for length in [41, -1, BIG, -BIG, True, False] + wrong_numbers(0, 40):
                    self.refused(NoNumber, call, size, length)

    def test_no_size_ahead_of_the_length(self):
        for call in ALL:
            for size in wrong_numbers(2, 8):
                for length in [0, 12, 13, 40, 41, -1, True, None, "3", (3,)]:
                    self.refused(NoNumber, call, size, length)


if __name__ == "__main__":
    unittest.main()
