"""Points [51] and [52], and [54] as far as it speaks of them: strips led on."""

import unittest

from evenhues.errors import NoFit, NoSizes, NoStrip, TooGreat
from evenhues.farthest import farthest
from evenhues.leads import ends, hues_ahead, hues_behind, led_more, led_on, shut_ends
from evenhues.strips import backward

from tests.helping import Told, fitting_strip, short_strips, wrong_rows
from tests.test_farthest import GREAT, SMALL, levels, product
from tests.test_fits import NO_SIZES, NO_STRIPS

MANY_SIZES = [
    (2,), (3,), (8,), (3, 3), (2, 3), (4, 3), (8, 2), (5, 6), (8, 8), (8, 7), (2, 2, 2), (3, 2, 4), (5, 4, 6),
    (8, 8, 8), (3, 3, 3, 3), (2, 8, 2, 8), (5, 5, 5, 5), (8, 3, 4, 8),
]
HUES_BY_STRIP = (hues_behind, hues_ahead)
LED = (led_more, led_on)

# Strips that do not fit (3, 3): another hue, or a whole row, at the beginning, in the middle, at the end.
NO_FITS = [
    (2,), (3,), (2, 0, 1), (0, 3, 1), (0, 1, 2), (0, 0, 0), (0, 0, 0, 1, 1), (1, 0, 0, 0, 1), (1, 1, 0, 0, 0),
    (0, 1, 0, 1, 0), (0, 0, 1, 1, 0, 0, 1, 1, 0), (2,) * 40, (0,) * 40, (0, 1) * 20,
]


def fitting(sizes):
    """Strips of many lengths that fit the sizes."""
    told = [strip for strip in short_strips(len(sizes), 3) if not wrong_rows(sizes, strip)]
    for length in [5, 6, 7, 8, 11, 20, 38, 39, 40]:
        told += [fitting_strip(sizes, length, seed) for seed in range(3)]
    return [strip for strip in told if strip is not None]


def behind(sizes, strip):
    return tuple(hue for hue in range(len(sizes)) if len(strip) < 40 and not wrong_rows(sizes, strip + (hue,)))


def ahead(sizes, strip):
    return tuple(hue for hue in range(len(sizes)) if len(strip) < 40 and not wrong_rows(sizes, (hue,) + strip))


class HuesBehindAndAhead(Told, unittest.TestCase):

    def test_some_by_hand(self):
        self.told((0, 1), hues_behind, (3, 3), ())
        self.told((0, 1), hues_ahead, (3, 3), ())
        self.told((0,), hues_behind, (2,), ())
        self.told((), hues_behind, (2,), (0,))
        self.told((1, 2, 3), hues_ahead, (2, 2, 2, 2), (0,))
        self.told((1,), hues_behind, (3, 3), (1, 0, 0))
        self.told((0, 1), hues_ahead, (3, 3), (1, 0, 0))
        self.told((), hues_behind, (3, 3), (0, 0, 1, 1, 0, 0, 1, 1))
        self.told((1,), hues_behind, (2, 8), (0, 1, 1, 1, 1, 1, 1))
        self.told((), hues_behind, (2, 8), (0, 1, 1, 1, 1, 1, 1, 1))

    def test_against_all_rows(self):
        seen = set()
        for sizes in MANY_SIZES:
            for strip in fitting(sizes):
                self.told(behind(sizes, strip), hues_behind, sizes, strip)
                self.told(ahead(sizes, strip), hues_ahead, sizes, strip)
                seen.add((len(sizes), len(strip)))
        for many in (0, 1, 5):
            self.assertTrue({(1, many), (2, many), (3, many), (4, many)} <= seen)
        for many in (39, 40):
            self.assertTrue({(2, many), (3, many), (4, many)} <= seen)

    def test_forty_places_are_followed_by_none(self):
        for sizes in [(8, 8), (8, 8, 8), (5, 5, 5, 5)]:
            strip = fitting_strip(sizes, 40, 51)
            # One hue at least could follow if it were not for the forty.
            self.assertTrue([hue for hue in range(len(sizes)) if not wrong_rows(sizes, strip + (hue,))])
            self.told((), hues_behind, sizes, strip)
            self.told((), hues_ahead, sizes, strip)
            self.told(behind(sizes, strip[:39]), hues_behind, sizes, strip[:39])
            self.assertIn(strip[39], hues_behind(sizes, strip[:39]))
            self.assertIn(strip[0], hues_ahead(sizes, strip[1:]))

    def test_what_stands_behind_stands_ahead_of_it_backward(self):
        for sizes in MANY_SIZES:
            for strip in fitting(sizes):
                self.assertEqual(hues_behind(sizes, strip), hues_ahead(sizes, backward(strip)))
                self.assertEqual(hues_ahead(sizes, strip), hues_behind(sizes, backward(strip)))


class LedOn(Told, unittest.TestCase):

    def test_all_strips_of_small_sizes(self):
        for sizes in SMALL:
            strips = [strip for level in levels(sizes) for strip in level]
            for strip in strips[::1 + len(strips) // 150]:
                longer = [other for other in strips if other[:len(strip)] == strip]
                most = max(len(other) for other in longer)
                self.told(most - len(strip), led_more, sizes, strip)
                self.told(min(other for other in longer if len(other) == most), led_on, sizes, strip)

    def test_ends(self):
        for sizes in SMALL:
            strips = [strip for level in levels(sizes) for strip in level]
            wanted = sorted(strip for strip in strips if not behind(sizes, strip))
            self.told(wanted, ends, sizes)
            self.told([strip for strip in wanted if not ahead(sizes, strip)], shut_ends, sizes)

    def test_some_by_hand(self):
        self.told(2, led_more, (3,), ())
        self.told((0, 0), led_on, (3,), ())
        self.told(0, led_more, (3,), (0, 0))
        self.told((0, 0), led_on, (3,), (0, 0))
        self.told(8, led_more, (3, 3), ())
        self.told((0, 0, 1, 1, 0, 0, 1, 1), led_on, (3, 3), ())
        self.told((1, 0, 0, 1, 1, 0, 0, 1), led_on, (3, 3), (1,))
        self.told([(0, 1), (1, 0)], ends, (2, 2))
        self.told([(0, 1), (1, 0)], shut_ends, (2, 2))
        self.told([(0,)], ends, (2,))
        self.told([(0,) * 7], shut_ends, (8,))
        # Nothing stands behind (0, 1, 1), but 1 may stand ahead of it.
        self.told([(0, 1, 1), (1, 0, 1, 1), (1, 1, 0, 1, 1)], self.some_ends_of_2_3)

    def some_ends_of_2_3(self):
        return [strip for strip in ends((2, 3)) if strip[-3:] == (0, 1, 1)]

    def test_the_ends_that_are_not_shut(self):
        for sizes in [(3, 3), (2, 3), (3, 4), (2, 2, 3)]:
            shut = shut_ends(sizes)
            loose = [strip for strip in ends(sizes) if strip not in shut]
            self.assertNotEqual(loose, [])
            for strip in loose:
                self.assertNotEqual(ahead(sizes, strip), ())

    def test_the_strip_without_places_is_led_on_by_the_greatest_length(self):
        for sizes in SMALL:
            self.assertEqual(led_more(sizes, ()), farthest(sizes))


class Refused(Told, unittest.TestCase):

    def test_no_sizes_ahead_of_all(self):
        for thing in NO_SIZES:
            self.refused(NoSizes, ends, thing)
            self.refused(NoSizes, shut_ends, thing)
            for call in HUES_BY_STRIP + LED:
                for strip in [(), (0, 0, 0), (9,), None, (0,) * 41]:
                    self.refused(NoSizes, call, thing, strip)

    def test_too_great_ahead_of_the_strip(self):
        for sizes in GREAT[::7] + [(2, 7), (7, 2), (4, 4), (3, 5), (2, 2, 4), (2, 2, 2, 2), (8, 8, 8, 8), (2, 8)]:
            for call, rest in [(ends, []), (shut_ends, [])] + [
                    (call, [strip]) for call in LED for strip in [(), (0,) * 8, (3,), (9,), None, [0], (0,) * 41]]:
                error = self.refused(TooGreat, call, sizes, *rest)
                self.assertEqual((error.many, error.most), (product(sizes), 12))

    def test_sizes_that_come_to_12_are_let(self):
        for sizes in [(3, 4), (2, 6), (2, 2, 3)]:
            self.assertEqual(product(sizes), 12)
            self.assertIn(led_on(sizes, ()), ends(sizes))

    def test_hues_by_strip_are_not_bounded_by_12(self):
        self.told((0, 1, 2, 3), hues_behind, (8, 8, 8, 8), (0,))

    def test_no_strip(self):
        for thing in NO_STRIPS:
            for call in HUES_BY_STRIP + LED:
                self.refused(NoStrip, call, (3, 3), thing)

    def test_no_fit(self):
        for strip in NO_FITS:
            for call in HUES_BY_STRIP + LED:
                self.refused(NoFit, call, (3, 3), strip)
        for call in HUES_BY_STRIP + LED:
            self.refused(NoFit, call, (3,), (1,))
            self.refused(NoFit, call, (2,), (0, 0))


if __name__ == "__main__":
    unittest.main()
