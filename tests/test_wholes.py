"""Points [13] and [15]: whole rows, and what holds of strips made of others."""

import itertools
import unittest

from evenhues.errors import NoNumber, NoStrip
from evenhues.strips import backward, exchanged, joined, thinned
from evenhues.wholes import first_whole, longest, whole_by, whole_rows

from tests.helping import NUMBERS, STRANGE, Told, mixed_strips, places, rows_gone_through, short_strips, wrong_numbers

SIZES = range(2, 9)
STRIPS = [(), (0,), (3,), (2, 2), (1,) * 40, (3,) * 39, (0, 1, 2, 3) * 10, (0, 0, 1, 1) * 10, (0,) * 20 + (1,) * 20]
STRIPS += mixed_strips(40) + mixed_strips(30, hues=2) + short_strips(3, 4)
NO_STRIPS = STRANGE + NUMBERS + [(0,) * 41, (4,), (0, -1)]


def rows_that_are_whole(strip, size):
    return [row for row in rows_gone_through(len(strip), size) if len({strip[p] for p in places(row, size)}) == 1]


def longest_gone_through(strip):
    """Every lot of like places that starts anywhere with any step, however far it goes."""
    best = 0
    for many in range(1, len(strip) + 1):
        for first in range(len(strip)):
            for step in range(1, len(strip) + 1):
                told = [first + step * k for k in range(many)]
                if told[-1] < len(strip) and len({strip[p] for p in told}) == 1:
                    best = many
    return best


class WholeRows(Told, unittest.TestCase):

    def test_against_all_rows(self):
        for strip in STRIPS:
            for size in SIZES:
                wanted = rows_that_are_whole(strip, size)
                self.told(wanted, whole_rows, strip, size)
                self.told(wanted[0] if wanted else None, first_whole, strip, size)
                by = tuple(len([row for row in wanted if strip[row[0]] == hue]) for hue in range(4))
                self.told(by, whole_by, strip, size)
                self.assertEqual(sum(by), len(whole_rows(strip, size)))

    def test_some_by_hand(self):
        self.told([(0, 2), (1, 2)], whole_rows, (0, 1, 0, 1), 2)
        self.told((0, 2), first_whole, (0, 1, 0, 1), 2)
        self.told((1, 1, 0, 0), whole_by, (0, 1, 0, 1), 2)
        self.told((0, 0, 0, 3), whole_by, (3, 3, 3), 2)
        self.told(None, first_whole, (0, 1, 0, 1), 3)
        self.told([], whole_rows, (), 2)
        self.told((0, 0, 0, 0), whole_by, (), 8)

    def test_no_strip(self):
        for call in (whole_rows, first_whole, whole_by):
            for thing in NO_STRIPS:
                self.refused(NoStrip, call, thing, 3)
                self.refused(NoStrip, call, thing, 1)

    def test_no_number(self):
        for call in (whole_rows, first_whole, whole_by):
            for size in wrong_numbers(2, 8):
                self.refused(NoNumber, call, (), size)
                self.refused(NoNumber, call, (1,) * 40, size)


class Longest(Told, unittest.TestCase):

    def test_some_by_hand(self):
        self.told(0, longest, ())
        self.told(1, longest, (2,))
        self.told(1, longest, (3, 1, 0, 2))
        self.told(40, longest, (3,) * 40)
        self.told(3, longest, (0, 1, 0, 2, 0))
        self.told(20, longest, (0, 1) * 20)

    def test_two_like_hues_anywhere(self):
        for one, other in itertools.combinations(range(5), 2):
            strip = [0, 1, 2, 3]
            strip.insert(other, strip[one])
            self.told(2, longest, tuple(strip))
        self.told(2, longest, (1, 0, 3, 2, 1))

    def test_against_all_gone_through(self):
        for strip in short_strips(4, 4) + short_strips(2, 7) + mixed_strips(10, hues=2, most=16):
            self.told(longest_gone_through(strip), longest, strip)

    def test_no_strip(self):
        for thing in NO_STRIPS:
            self.refused(NoStrip, longest, thing)


class WhatThereforeHolds(Told, unittest.TestCase):

    def test_backward_as_many(self):
        for strip in STRIPS:
            for size in SIZES:
                self.assertEqual(whole_by(backward(strip), size), whole_by(strip, size))

    def test_exchanged_as_many_of_what_the_hues_became(self):
        for order in itertools.permutations(range(4)):
            for strip in mixed_strips(12):
                for size in (2, 3, 4):
                    was, now = whole_by(strip, size), whole_by(exchanged(strip, order), size)
                    self.assertEqual([now[order[hue]] for hue in range(4)], list(was))

    def test_thinned_no_more(self):
        for strip in STRIPS[:60]:
            for first, step in [(0, 1), (0, 2), (1, 3), (5, 1), (40, 40)]:
                self.assertLessEqual(longest(thinned(strip, first, step)), longest(strip))

    def test_joined_has_the_rows_of_both(self):
        strips = mixed_strips(12, hues=3, most=20)
        for one, other in itertools.product(strips, strips):
            for size in (2, 3, 4):
                rows = whole_rows(joined(one, other), size)
                for row in whole_rows(one, size):
                    self.assertIn(row, rows)
                for first, step in whole_rows(other, size):
                    self.assertIn((first + len(one), step), rows)


if __name__ == "__main__":
    unittest.main()
