"""Points [53] and [54]: strips that are alike, and their forms."""

import itertools
import unittest

from evenhues.errors import NoFit, NoNumber, NoSizes, NoStrip, TooGreat
from evenhues.farthest import all_strips, farthest, strips_many
from evenhues.fits import fits
from evenhues.forms import alike_many, are_alike, form_of, kinds

from tests.helping import Told, fitting_strip, short_strips, wrong_numbers, wrong_rows
from tests.test_farthest import GREAT, SMALL, product
from tests.test_fits import NO_SIZES, NO_STRIPS
from tests.test_leads import NO_FITS

# All sizes alike, some of them, none of them.
MANY_SIZES = [
    (3,), (8,), (3, 3), (8, 8), (3, 4), (2, 6), (4, 4, 4), (4, 4, 5), (5, 4, 5), (5, 4, 4), (3, 4, 5), (4, 4, 4, 4),
    (5, 5, 6, 6), (6, 5, 6, 5), (5, 5, 5, 6), (8, 5, 5, 5), (3, 8, 4, 8), (2, 3, 4, 5),
]


def alike_gone_through(sizes, strip):
    """All strips alike to the strip: each exchange of hues of like sizes, backward or not."""
    told = set()
    for order in itertools.permutations(range(len(sizes))):
        if all(sizes[order[hue]] == size for hue, size in enumerate(sizes)):
            new = tuple(order[hue] for hue in strip)
            told |= {new, new[::-1]}
    return told


def fitting(sizes):
    """Strips of many lengths that fit the sizes, some of which are their own backward."""
    told = [strip for strip in short_strips(len(sizes), 3) if not wrong_rows(sizes, strip)]
    for length in [4, 5, 6, 9, 20, 40]:
        for seed in range(3):
            strip = fitting_strip(sizes, length, seed)
            if strip is not None:
                half = strip[:length // 2]
                told += [strip] + [own for own in [half + half[::-1]] if not wrong_rows(sizes, own)]
    return told


class Forms(Told, unittest.TestCase):

    def test_some_by_hand(self):
        self.told((), form_of, (3, 3), ())
        self.told(1, alike_many, (3, 3), ())
        self.told((0,), form_of, (3, 3), (1,))
        self.told((1,), form_of, (3, 4), (1,))
        self.told(2, alike_many, (3, 3), (1,))
        self.told(1, alike_many, (3, 4), (1,))
        self.told((0, 0, 1), form_of, (3, 3), (0, 1, 1))
        self.told((0, 1, 1), form_of, (3, 4), (1, 1, 0))
        self.told(4, alike_many, (3, 3), (0, 0, 1))
        self.told(2, alike_many, (3, 4), (0, 0, 1))
        self.told(2, alike_many, (3, 3), (0, 1))
        self.told(24, alike_many, (3, 3, 3, 3), (0, 1, 2, 3))
        self.told((0, 1, 2), form_of, (4, 4, 5), (2, 0, 1))
        self.told((0, 2, 1), form_of, (4, 5, 4), (1, 0, 2))

    def test_all_exchanges_gone_through(self):
        for sizes in MANY_SIZES:
            for strip in fitting(sizes):
                wanted = alike_gone_through(sizes, strip)
                self.told(min(wanted), form_of, sizes, strip)
                self.told(len(wanted), alike_many, sizes, strip)

    def test_are_alike(self):
        seen = set()
        for sizes in MANY_SIZES:
            strips = [strip for strip in fitting(sizes) if len(strip) <= 9]
            for one in strips[::1 + len(strips) // 15]:
                alike = alike_gone_through(sizes, one)
                for other in sorted(alike) + strips:
                    self.told(other in alike, are_alike, sizes, one, other)
                    self.told(other in alike, are_alike, sizes, other, one)
                    seen.add((other in alike, len(one) == len(other), one == one[::-1], one == other))
        for own in (True, False):
            for what in [(True, True, own, True), (True, True, own, False), (False, True, own, False),
                         (False, False, own, False)]:
                self.assertIn(what, seen)

    def test_long_ones(self):
        for sizes in [(8, 8), (5, 5, 6, 6), (5, 5, 5, 5)]:
            one = fitting_strip(sizes, 40, 53)
            for other in alike_gone_through(sizes, one):
                self.told(True, are_alike, sizes, one, other)
            self.told(False, are_alike, sizes, one, one[:39])
            self.told(False, are_alike, sizes, one[:39], one)


class Kinds(Told, unittest.TestCase):

    def test_forms_of_all_strips(self):
        for sizes in SMALL:
            for length in range(farthest(sizes) + 2):
                wanted = {min(alike_gone_through(sizes, strip)) for strip in all_strips(sizes, length)}
                self.told(sorted(wanted), kinds, sizes, length)

    def test_some_by_hand(self):
        self.told([()], kinds, (3, 3), 0)
        self.told([(0,)], kinds, (3, 3), 1)
        self.told([(0,), (1,)], kinds, (3, 4), 1)
        self.told([(0, 0, 1, 1, 0, 0, 1, 1), (0, 1, 0, 1, 1, 0, 1, 0), (0, 1, 1, 0, 0, 1, 1, 0)], kinds, (3, 3), 8)
        self.told([], kinds, (3, 3), 9)
        self.told([], kinds, (3, 3), 40)


class WhatThereforeHolds(Told, unittest.TestCase):

    def test_the_alike_ones_come_to_all(self):
        for sizes in SMALL:
            for length in range(farthest(sizes) + 2):
                many = sum(alike_many(sizes, form) for form in kinds(sizes, length))
                self.assertEqual(many, strips_many(sizes, length))

    def test_alike_ones_fit(self):
        for sizes in MANY_SIZES:
            for strip in fitting(sizes):
                form = form_of(sizes, strip)
                self.assertEqual(len(form), len(strip))
                self.assertTrue(fits(sizes, form))
                self.assertTrue(are_alike(sizes, strip, form))
                self.assertEqual(form_of(sizes, form), form)
                self.assertEqual(alike_many(sizes, form), alike_many(sizes, strip))


class Refused(Told, unittest.TestCase):

    def test_no_sizes_ahead_of_all(self):
        for thing in NO_SIZES:
            for strip in [(), (0, 0, 0), None, (0,) * 41]:
                self.refused(NoSizes, form_of, thing, strip)
                self.refused(NoSizes, alike_many, thing, strip)
                self.refused(NoSizes, are_alike, thing, strip, ())
            self.refused(NoSizes, kinds, thing, 0)
            self.refused(NoSizes, kinds, thing, 41)

    def test_no_strip_and_no_fit(self):
        for error, things in [(NoStrip, NO_STRIPS), (NoFit, NO_FITS)]:
            for thing in things:
                self.refused(error, form_of, (3, 3), thing)
                self.refused(error, alike_many, (3, 3), thing)
                self.refused(error, are_alike, (3, 3), (0, 1), thing)
                # The first one is looked at through and through ahead of the second one.
                for other in [(0, 1), (0, 0, 0), (2,), None, (0,) * 41, thing]:
                    self.refused(error, are_alike, (3, 3), thing, other)

    def test_other_strips_are_not_bounded_by_12(self):
        self.told((0,), form_of, (8, 8, 8, 8), (3,))

    def test_kinds_of_great_sizes(self):
        for sizes in GREAT[::5] + [(2, 7), (4, 4), (2, 2, 4), (2, 2, 2, 2)]:
            for length in [0, 40] + wrong_numbers(0, 40)[:12]:
                error = self.refused(TooGreat, kinds, sizes, length)
                self.assertEqual((error.many, error.most), (product(sizes), 12))

    def test_no_length(self):
        for length in wrong_numbers(0, 40):
            for sizes in [(2,), (3, 4), (2, 2, 3)]:
                self.refused(NoNumber, kinds, sizes, length)


if __name__ == "__main__":
    unittest.main()
