"""Points [71], [72], [73], and [75] as far as it speaks of one ring: even rounds, and rings made of others."""

import math
import unittest

from evenhues.errors import NoNumber, NoPlace, NoRing, NoRound, NoSizes, TooGreat
from evenhues.fits import fits
from evenhues.rings import first_round_wrong, fits_round, laid, round_places, strided, turned, whole_rounds
from evenhues.strips import backward, is_strip

from tests.helping import BIG, NO_WHOLES, Told, mixed_strips, put, short_strips, wrong_numbers
from tests.test_fits import NO_SIZES, NO_STRIPS, SOME_SIZES

NO_RINGS = NO_STRIPS + [(), [0], [0, 1], (0, 4), (4, 0), (0,) * 1000, (0,) * 40 + (1,)]
NO_PLACES = [-1, BIG, -BIG] + NO_WHOLES
RINGS = [strip for strip in mixed_strips(82) if strip] + [(0,), (3,), (0, 0), (1,) * 12, (2,) * 40, (0, 1) * 20]


def places_round(ring, first, step, size):
    """The places of an even round, gone to one by one; None where they are not unlike."""
    told = []
    place = first
    while len(told) < size:
        if place in told:
            return None
        told.append(place)
        for _ in range(step):
            place = place + 1 if place + 1 < len(ring) else 0
    return tuple(told)


def rounds_gone_through(ring, size):
    """All whole rounds of the size with their hues."""
    told = []
    for first in range(len(ring)):
        for step in range(1, len(ring)):
            own = places_round(ring, first, step, size)
            if own is not None and len({ring[place] for place in own}) == 1:
                told.append((first, step))
    return told


def wrong_round(sizes, ring):
    """What is wrong first, of every place and every round of every hue."""
    for place, hue in enumerate(ring):
        if hue >= len(sizes):
            return ("hue", place)
    found = []
    for hue, size in enumerate(sizes):
        found += [pair for pair in rounds_gone_through(ring, size) if ring[pair[0]] == hue]
    return ("round",) + min(found) if found else None


def is_prime(number):
    return number > 1 and all(number % other for other in range(2, number))


class RoundPlaces(Told, unittest.TestCase):

    def test_some_by_hand(self):
        self.told((3, 0, 2), round_places, (0, 1, 2, 3, 0), 3, 2, 3)
        self.told((0, 1), round_places, (0, 0), 0, 1, 2)
        self.told((4, 3, 2, 1, 0), round_places, (0,) * 5, 4, 4, 5)
        self.told((38, 39, 0), round_places, (0,) * 40, 38, 1, 3)
        self.refused(NoRound, round_places, (0, 0), 0, 1, 3)
        self.refused(NoRound, round_places, (0, 0, 0, 0), 1, 2, 3)
        self.told((1, 3), round_places, (0, 0, 0, 0), 1, 2, 2)

    def test_against_places_gone_to_one_by_one(self):
        seen = set()
        for length in range(1, 41):
            ring = RINGS[0] * length if length < 8 else (0, 1, 2, 3) * 10
            ring = ring[:length]
            for first in {0, 1, length // 2, length - 1} & set(range(length)):
                for step in range(1, length):
                    for size in range(2, 9):
                        wanted = places_round(ring, first, step, size)
                        seen.add((length, wanted is None))
                        if wanted is None:
                            self.refused(NoRound, round_places, ring, first, step, size)
                        elif length < 12:
                            self.told(wanted, round_places, ring, first, step, size)
                        else:
                            self.assertEqual(round_places(ring, first, step, size), wanted)
        for length in range(2, 41):
            self.assertIn((length, False), seen)
        self.assertIn((40, True), seen)

    def test_it_is_all_one_which_hues(self):
        for ring in [(0,) * 7, (0, 1, 2, 3, 0, 1, 2), (3, 3, 0, 0, 1, 1, 2)]:
            self.told((5, 1, 4, 0, 3), round_places, ring, 5, 3, 5)

    def test_no_ring_ahead_of_all(self):
        for thing in NO_RINGS:
            for first, step, size in [(0, 1, 2), (-1, 0, 1), (None, None, None), (0, 0, 9)]:
                self.refused(NoRing, round_places, thing, first, step, size)

    def test_no_place(self):
        for ring in [(0,), (0, 1), (0, 1, 2, 3, 0), (1,) * 40]:
            for first in NO_PLACES + [len(ring), len(ring) + 1, 40, 41]:
                for step, size in [(1, 2), (0, 1), (len(ring), 9), (None, None), (True, True)]:
                    self.refused(NoPlace, round_places, ring, first, step, size)

    def test_no_step(self):
        for ring in [(0,), (0, 1), (0, 1, 2, 3, 0), (1,) * 40]:
            for step in wrong_numbers(1, len(ring) - 1) + [0, len(ring), len(ring) + 1]:
                for size in [2, 8, 1, 9, None, True]:
                    self.refused(NoNumber, round_places, ring, 0, step, size)

    def test_a_ring_of_one_place_has_no_step(self):
        for step in [0, 1, 2]:
            self.refused(NoNumber, round_places, (0,), 0, step, 2)

    def test_no_size_ahead_of_no_round(self):
        for size in wrong_numbers(2, 8):
            self.refused(NoNumber, round_places, (0, 1, 2, 3), 0, 1, size)
            # Two places can't be gone round by any size above 2.
            self.refused(NoNumber, round_places, (0, 1, 2, 3), 0, 2, size)


class WholeRounds(Told, unittest.TestCase):

    def test_some_by_hand(self):
        self.told([], whole_rounds, (0,), 2)
        self.told([(0, 1), (1, 1)], whole_rounds, (0, 0), 2)
        self.told([], whole_rounds, (0, 0), 3)
        self.told([(0, 1), (0, 2), (1, 1), (1, 2), (2, 1), (2, 2)], whole_rounds, (3, 3, 3), 3)
        self.told([(0, 2), (2, 2)], whole_rounds, (0, 1, 0, 2), 2)
        self.told([(2, 3), (3, 2)], whole_rounds, (1, 2, 1, 1, 2), 3)

    def test_short_rings_against_all_rounds(self):
        for ring in short_strips(2, 6)[1:] + short_strips(4, 4)[1:]:
            for size in (2, 3, 4, 5):
                self.told(rounds_gone_through(ring, size), whole_rounds, ring, size)

    def test_long_rings_against_all_rounds(self):
        for ring in RINGS:
            for size in (2, 3, 8) if len(ring) > 12 else range(2, 9):
                self.assertEqual(whole_rounds(ring, size), rounds_gone_through(ring, size))
        for ring in RINGS[::9]:
            self.told(rounds_gone_through(ring, 3), whole_rounds, ring, 3)

    def test_refused(self):
        for thing in NO_RINGS:
            for size in [2, 1, None]:
                self.refused(NoRing, whole_rounds, thing, size)
        for size in wrong_numbers(2, 8):
            for ring in [(0,), (0, 1, 2, 3, 0)]:
                self.refused(NoNumber, whole_rounds, ring, size)


class FitsRound(Told, unittest.TestCase):

    def both(self, sizes, ring):
        wanted = wrong_round(sizes, ring)
        self.told(wanted, first_round_wrong, sizes, ring)
        self.told(wanted is None, fits_round, sizes, ring)
        return wanted

    def test_some_by_hand(self):
        self.told(None, first_round_wrong, (3, 3), (0, 0, 1, 1))
        self.told(("round", 0, 1), first_round_wrong, (3, 3), (0, 0, 0))
        # As a strip it fits.
        self.assertTrue(fits((3, 3), (0, 0, 1, 0)))
        self.told(("round", 1, 3), first_round_wrong, (3, 3), (0, 0, 1, 0))
        self.assertTrue(fits_round((2,), (0,)))
        self.told(("round", 0, 1), first_round_wrong, (2,), (0, 0))
        self.told(("hue", 2), first_round_wrong, (2, 2), (0, 0, 3, 2))

    def test_short_rings(self):
        seen = set()
        for sizes in SOME_SIZES:
            for ring in short_strips(4, 4)[1:] + short_strips(2, 6)[1:]:
                wanted = self.both(sizes, ring)
                seen.add((len(sizes), wanted and wanted[0]))
        for hues in (1, 2, 3, 4):
            self.assertIn((hues, "round"), seen)
            self.assertIn((hues, None), seen)
            self.assertIn((hues, "hue"), seen | {(4, "hue")})

    def test_long_rings(self):
        for sizes in [(8,), (8, 8), (5, 4, 6), (3, 3, 3, 3), (8, 7, 6, 5)]:
            for ring in RINGS[::2]:
                own = tuple(hue % len(sizes) for hue in ring)
                wanted = wrong_round(sizes, own)
                self.assertEqual(first_round_wrong(sizes, own), wanted)
                self.assertIs(fits_round(sizes, own), wanted is None)

    def test_a_hue_without_a_size_at_any_place(self):
        for sizes in [(8,), (3, 3), (4, 4, 4)]:
            for length in (1, 2, 7, 40):
                for wholes in (True, False):
                    ring = (0,) * length if wholes else tuple(k // 2 % len(sizes) for k in range(length))
                    for place in range(length):
                        for hue in range(len(sizes), 4):
                            self.told(("hue", place), first_round_wrong, sizes, put(ring, place, hue))
                            self.told(False, fits_round, sizes, put(ring, place, hue))

    def test_a_whole_round_at_any_place(self):
        length = 13
        for first in range(length):
            for step in range(1, length):
                own = places_round((0,) * length, first, step, 3)
                ring = tuple(0 if place in own else 1 + place % 3 for place in range(length))
                # Of thirteen places three are evenly spaced onward and backward, and in no other order.
                wanted = ("round",) + min((first, step), (own[-1], length - step))
                self.assertEqual(self.both((3, 8, 8, 8), ring), wanted)
                self.both((3, 3, 3, 3), ring)
                self.told(None, first_round_wrong, (4, 8, 8, 8), ring)

    def test_refused(self):
        for thing in NO_SIZES:
            for ring in [(0,), (), None, (0,) * 41, [0]]:
                self.refused(NoSizes, fits_round, thing, ring)
                self.refused(NoSizes, first_round_wrong, thing, ring)
        for thing in NO_RINGS:
            for sizes in [(2,), (3, 3), (8, 8, 8, 8)]:
                self.refused(NoRing, fits_round, sizes, thing)
                self.refused(NoRing, first_round_wrong, sizes, thing)


class MadeOfOthers(Told, unittest.TestCase):

    def test_turned_hue_by_hue(self):
        for ring in RINGS:
            for place in range(len(ring)):
                told = turned(ring, place)
                self.assertTrue(is_strip(told) and len(told) == len(ring))
                for at, hue in enumerate(told):
                    self.assertEqual(hue, ring[at + place if at + place < len(ring) else at + place - len(ring)])
        self.told((1, 2, 3, 0), turned, (0, 1, 2, 3), 1)
        self.told((0, 1, 2, 3), turned, (0, 1, 2, 3), 0)
        self.told((3,), turned, (3,), 0)

    def test_turned_by_no_place(self):
        for thing in NO_RINGS:
            for place in [0, -1, None]:
                self.refused(NoRing, turned, thing, place)
        for ring in [(0,), (0, 1, 2), (1,) * 40]:
            for place in NO_PLACES + [len(ring), len(ring) + 1, 41]:
                self.refused(NoPlace, turned, ring, place)

    def test_strided_hue_by_hue(self):
        for ring in RINGS:
            for by in range(1, len(ring) + 1):
                if math.gcd(by, len(ring)) > 1:
                    self.refused(NoNumber, strided, ring, by)
                else:
                    told = strided(ring, by)
                    self.assertTrue(is_strip(told) and len(told) == len(ring))
                    for at, hue in enumerate(told):
                        self.assertEqual(hue, ring[divmod(at * by, len(ring))[1]])
        self.told((0, 2, 3, 1, 2), strided, (0, 1, 2, 2, 3), 2)
        self.told((2,), strided, (2,), 1)
        self.told((0, 3, 2, 1), strided, (0, 1, 2, 3), 3)

    def test_strided_by_no_number(self):
        for thing in NO_RINGS:
            for by in [1, 0, None]:
                self.refused(NoRing, strided, thing, by)
        for ring in [(0,), (0, 1, 2), (1,) * 40]:
            for by in wrong_numbers(1, len(ring)):
                self.refused(NoNumber, strided, ring, by)
        self.refused(NoNumber, strided, (0, 1, 2), 3)

    def test_laid_hue_by_hue(self):
        for ring in RINGS:
            for often in range(41):
                if len(ring) * often > 40:
                    error = self.refused(TooGreat, laid, ring, often)
                    self.assertEqual((error.many, error.most), (len(ring) * often, 40))
                else:
                    wanted = []
                    for _ in range(often):
                        wanted += list(ring)
                    self.told(tuple(wanted), laid, ring, often)

    def test_laid_some_by_hand(self):
        self.told((), laid, (0, 1), 0)
        self.told((0, 1), laid, (0, 1), 1)
        self.told((1,) * 40, laid, (1,), 40)
        self.told((0, 1, 2, 3) * 10, laid, (0, 1, 2, 3), 10)
        for ring, often, many in [((0, 1, 2, 3), 11, 44), ((0,) * 40, 2, 80), ((0,) * 40, 40, 1600), ((0,) * 21, 2, 42)]:
            error = self.refused(TooGreat, laid, ring, often)
            self.assertEqual((error.many, error.most), (many, 40))

    def test_laid_no_number_of_times(self):
        for thing in NO_RINGS:
            for often in [0, 41, None]:
                self.refused(NoRing, laid, thing, often)
        for ring in [(0,), (0, 1, 2), (1,) * 40]:
            for often in wrong_numbers(0, 40):
                self.refused(NoNumber, laid, ring, often)


class WhatThereforeHolds(Told, unittest.TestCase):

    def rings_that_fit(self):
        for sizes in [(3, 3), (4, 3), (8, 8), (3, 3, 3), (4, 4, 4), (3, 3, 3, 3), (5, 6, 7, 8)]:
            for ring in short_strips(len(sizes), 5)[1:] + [(0, 1, 1, 0, 1, 0, 0), (0, 0, 1, 0, 1, 1, 1)]:
                if fits_round(sizes, ring):
                    yield sizes, ring
            for ring in RINGS:
                own = tuple(hue % len(sizes) for hue in ring)
                if fits_round(sizes, own):
                    yield sizes, own

    def test_what_fits_fits_turned_strided_and_backward(self):
        many = 0
        for sizes, ring in self.rings_that_fit():
            many += 1
            self.assertTrue(fits(sizes, ring))
            self.assertTrue(fits_round(sizes, backward(ring)))
            for place in range(len(ring)):
                self.assertTrue(fits_round(sizes, turned(ring, place)))
            for by in range(1, len(ring) + 1):
                if math.gcd(by, len(ring)) == 1:
                    self.assertTrue(fits_round(sizes, strided(ring, by)))
        self.assertGreater(many, 500)

    def test_laid_as_often_as_the_least_size_less_1(self):
        many = 0
        for sizes, ring in self.rings_that_fit():
            often = min(sizes) - 1
            if is_prime(len(ring)) and len(ring) >= max(sizes) and len(ring) * often <= 40:
                many += 1
                self.assertTrue(fits(sizes, laid(ring, often)))
        self.assertGreater(many, 50)


if __name__ == "__main__":
    unittest.main()
