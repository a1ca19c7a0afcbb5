"""Points [11] and [14]: strips, and strips made of others."""

import itertools
import unittest

from evenhues.errors import NoHue, NoNumber, NoStrip, TooGreat
from evenhues.strips import backward, exchanged, is_strip, joined, thinned

from tests.helping import BIG, NUMBERS, STRANGE, Told, mixed_strips, short_strips, wrong_numbers

FORTY = tuple(place % 4 for place in range(40))
WRONG_HUES = [4, -1, True, False, None, "0", "", (0,), (), [0], [], {}, BIG, -BIG]
NO_STRIPS = STRANGE + NUMBERS + [FORTY + (0,), (4,), (-1,), (0, 1, 4), (0,) * 1000]
ORDERS = list(itertools.permutations(range(4)))
NO_ORDERS = [
    (0, 0, 1, 2), (3, 3, 3, 3), (0, 1, 2), (), (0, 1, 2, 3, 3), (0, 1, 2, 3, 4), (1, 2, 3, 4), (-1, 0, 1, 2),
    (False, 1, 2, 3), (0, True, 2, 3), (3, 2, True, False), [0, 1, 2, 3], (0, 1, 2, None), (0, 1, 2, "3"),
    (0, 1, 2, (3,)), (0, 1, 2, [3]), (0, 1, 2, BIG),
]


class IsStrip(Told, unittest.TestCase):

    def test_strips(self):
        for strip in [(), (0,), (1,), (2,), (3,), FORTY, (3,) * 40, (0,) * 39] + short_strips(4, 3):
            self.told(True, is_strip, strip)

    def test_forty_one_places_are_none(self):
        self.told(False, is_strip, FORTY + (0,))
        self.told(False, is_strip, (0,) * 1000)

    def test_a_wrong_hue_anywhere(self):
        for wrong in WRONG_HUES:
            self.told(False, is_strip, (wrong,))
            for place in (0, 1, 20, 39):
                self.told(False, is_strip, FORTY[:place] + (wrong,) + FORTY[place + 1:])

    def test_things_of_other_kinds(self):
        for thing in STRANGE + NUMBERS:
            self.told(False, is_strip, thing)


class Backward(Told, unittest.TestCase):

    def test_backward(self):
        self.told((), backward, ())
        self.told((2,), backward, (2,))
        self.told((3, 1, 0), backward, (0, 1, 3))
        self.told(tuple(FORTY[39 - place] for place in range(40)), backward, FORTY)

    def test_no_strip(self):
        for thing in NO_STRIPS:
            self.refused(NoStrip, backward, thing)


class Exchanged(Told, unittest.TestCase):

    def test_all_orders(self):
        for order in ORDERS:
            self.told((), exchanged, (), order)
            self.told(order, exchanged, (0, 1, 2, 3), order)
            for hue in range(4):
                self.told((order[hue],), exchanged, (hue,), order)
            self.told(order * 10, exchanged, FORTY, order)

    def test_not_the_other_way_round(self):
        self.told((1, 1, 2, 0), exchanged, (0, 0, 1, 2), (1, 2, 0, 3))

    def test_orders_that_are_none(self):
        for hues in NO_ORDERS + NUMBERS + STRANGE:
            self.refused(NoHue, exchanged, (), hues)
            self.refused(NoHue, exchanged, FORTY, hues)

    def test_no_strip_is_looked_at_first(self):
        for thing in NO_STRIPS:
            self.refused(NoStrip, exchanged, thing, (0, 1, 2, 3))
            self.refused(NoStrip, exchanged, thing, (0, 0))


class Thinned(Told, unittest.TestCase):

    def test_each_first_and_step(self):
        for strip in [(), (2,), (0, 1), FORTY, (1, 2, 3, 0, 0)]:
            for first in (0, 1, 2, 4, 5, 39, 40):
                for step in (1, 2, 3, 39, 40):
                    wanted = []
                    place = first
                    while place < len(strip):
                        wanted.append(strip[place])
                        place += step
                    self.told(tuple(wanted), thinned, strip, first, step)

    def test_perhaps_without_places(self):
        self.told((), thinned, FORTY, 40, 1)
        self.told((FORTY[39],), thinned, FORTY, 39, 40)

    def test_no_number(self):
        for first in wrong_numbers(0, 40):
            self.refused(NoNumber, thinned, FORTY, first, 1)
            self.refused(NoNumber, thinned, (), first, "one")
        for step in wrong_numbers(1, 40):
            self.refused(NoNumber, thinned, FORTY, 0, step)
            self.refused(NoNumber, thinned, (), 40, step)

    def test_no_strip_is_looked_at_first(self):
        for thing in NO_STRIPS:
            self.refused(NoStrip, thinned, thing, 0, 1)
            self.refused(NoStrip, thinned, thing, -1, 0)


class Joined(Told, unittest.TestCase):

    def test_joined(self):
        self.told((), joined, (), ())
        self.told((1,), joined, (1,), ())
        self.told((1,), joined, (), (1,))
        self.told((0, 1, 2, 3), joined, (0, 1), (2, 3))
        for strip in mixed_strips(60):
            self.told(tuple(list(strip) + list(FORTY[len(strip):])), joined, strip, FORTY[len(strip):])

    def test_forty_places_are_let(self):
        self.told(FORTY, joined, FORTY, ())
        self.told(FORTY, joined, (), FORTY)
        self.told(FORTY, joined, FORTY[:20], FORTY[20:])

    def test_more_are_too_great(self):
        for one, other in [(FORTY, (0,)), ((0,), FORTY), (FORTY[:20], FORTY[:21])]:
            error = self.refused(TooGreat, joined, one, other)
            self.assertEqual((error.many, error.most), (41, 40))
        error = self.refused(TooGreat, joined, FORTY, FORTY)
        self.assertEqual((error.many, error.most), (80, 40))

    def test_no_strip_ahead_of_too_great(self):
        for thing in NO_STRIPS:
            self.refused(NoStrip, joined, thing, ())
            self.refused(NoStrip, joined, (), thing)
            self.refused(NoStrip, joined, FORTY, thing)
            self.refused(NoStrip, joined, thing, FORTY)
            self.refused(NoStrip, joined, thing, thing)


if __name__ == "__main__":
    unittest.main()
