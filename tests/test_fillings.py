"""Point [32]: the fillings of a draft."""

import unittest

from evenhues.errors import NoDraft, NoSizes, TooGreat
from evenhues.fillings import all_fillings, fillings_many, first_filling, is_filling

from tests.helping import (
    BIG, BLANKS_512, NUMBERS, STRANGE, Told, blanked_drafts, blanks, fillings_gone_through, mixed_strips, power, put,
    wrong_rows,
)
from tests.test_drafts import NO_DRAFTS
from tests.test_fits import NO_SIZES

SOME_SIZES = [
    (2,), (3,), (8,), (3, 3), (2, 3), (3, 4), (8, 2), (2, 2), (5, 4), (2, 2, 2), (3, 2, 4), (3, 3, 3), (3, 3, 3, 3),
    (2, 8, 2, 8), (4, 2, 3, 5),
]
BOUNDED = (fillings_many, all_fillings, first_filling)


def drafts_of(sizes):
    """Drafts of none to twelve places, and some of forty."""
    most = BLANKS_512[len(sizes)]
    return blanked_drafts(sizes, most, range(13), 6, 32) + blanked_drafts(sizes, min(most, 4), [25, 40], 3, 33)


class Fillings(Told, unittest.TestCase):

    def all_three(self, wanted, sizes, draft):
        self.told(len(wanted), fillings_many, sizes, draft)
        self.told(wanted, all_fillings, sizes, draft)
        self.told(wanted[0] if wanted else None, first_filling, sizes, draft)

    def test_some_by_hand(self):
        self.all_three([()], (3, 3), ())
        self.all_three([(0,), (1,)], (3, 3), (-1,))
        self.all_three([(0, 0, 1), (0, 1, 1)], (3, 3), (0, -1, 1))
        self.all_three([(0, 1, 0)], (3, 3), (0, -1, 0))
        self.all_three([], (3, 3), (0, 1, -1, 1, 0))
        self.all_three([], (3, 3), (0, 0, 0))
        self.all_three([], (3, 3), (0, 0, 0, -1))
        self.all_three([(0, 1, 1, 0)], (3, 3), (0, 1, 1, 0))
        self.all_three([(0,)], (2,), (-1,))
        self.all_three([], (2,), (-1, -1))
        self.all_three([(0,) * 7], (8,), (-1,) * 7)
        self.all_three([], (8,), (-1,) * 8)
        self.all_three([], (8,), (-1,) * 9)
        self.all_three([(0, 1, 2, 3), (0, 1, 3, 2)], (2, 2, 2, 2), (0, 1, -1, -1))

    def test_all_ways_gone_through(self):
        seen = set()
        for sizes in SOME_SIZES:
            for draft in drafts_of(sizes):
                wanted = fillings_gone_through(sizes, draft)
                self.all_three(wanted, sizes, draft)
                seen.add((len(sizes), not wrong_rows(sizes, draft), bool(blanks(draft)), bool(wanted)))
        for hues in (1, 2, 3, 4):
            for what in [(True, True, True), (True, True, False), (True, False, True), (False, True, False),
                         (False, False, False)]:
                self.assertIn((hues,) + what, seen)

    def test_just_so_many_blanks_as_are_let(self):
        for sizes in SOME_SIZES:
            many = BLANKS_512[len(sizes)]
            for draft in [(-1,) * many, (0,) + (-1,) * many, (-1,) * many + (len(sizes) - 1,) * 2]:
                self.all_three(fillings_gone_through(sizes, draft), sizes, draft)
        for sizes in [(3, 8), (5, 6, 7), (8, 8, 8, 8)]:
            many = BLANKS_512[len(sizes)]
            strip = mixed_strips(41, hues=len(sizes))[17]
            self.assertGreater(len(strip), 30)
            draft = (-1,) * many + strip[many:]
            self.all_three(fillings_gone_through(sizes, draft), sizes, draft)

    def test_one_blank_more(self):
        for sizes in SOME_SIZES:
            for many in range(BLANKS_512[len(sizes)] + 1, 41):
                for draft in [(-1,) * many, (0,) * (40 - many) + (-1,) * many]:
                    for call in BOUNDED:
                        error = self.refused(TooGreat, call, sizes, draft)
                        self.assertEqual((error.many, error.most), (power(sizes, draft), 512))

    def test_the_power_of_one_hue_is_reckoned_of_two(self):
        for call in BOUNDED:
            error = self.refused(TooGreat, call, (3,), (-1,) * 10)
            self.assertEqual((error.many, error.most), (1024, 512))
            error = self.refused(TooGreat, call, (2, 3, 4, 5), (-1,) * 40)
            self.assertEqual((error.many, error.most), (4 ** 40, 512))

    def test_a_draft_that_is_not_clean_is_bounded_too(self):
        error = self.refused(TooGreat, all_fillings, (2, 2), (0, 0) + (-1,) * 10)
        self.assertEqual((error.many, error.most), (1024, 512))


class IsFilling(Told, unittest.TestCase):

    def others_of(self, sizes, filling):
        """The filling with one place otherwise, or with a place more or fewer."""
        told = []
        for place in range(len(filling)):
            for hue in [-1, 0, 1, 2, 3, 4, True, False, None, "0", (0,), [0]]:
                told.append(put(filling, place, hue))
        for hue in range(4):
            told += [filling + (hue,), (hue,) + filling]
        return told + [filling[1:], filling[:-1], list(filling), [filling], (filling,), {0: filling}]

    def test_each_told_one_and_one_thing_otherwise(self):
        for sizes in SOME_SIZES:
            for draft in blanked_drafts(sizes, 3, range(9), 3, 44):
                wanted = fillings_gone_through(sizes, draft)
                for filling in wanted[:4]:
                    self.told(True, is_filling, sizes, draft, filling)
                    for other in self.others_of(sizes, filling):
                        whole = isinstance(other, tuple) and all(type(hue) is int for hue in other)
                        self.told(whole and other in wanted, is_filling, sizes, draft, other)

    def test_every_way_to_put_hues(self):
        for sizes, draft in [((3, 3), (0, -1, -1, 1, -1)), ((2, 3, 2), (-1, 1, -1)), ((3,), (-1, -1)), ((3, 3), ())]:
            wanted = fillings_gone_through(sizes, draft)
            for strip in mixed_strips(80, hues=len(sizes), most=6) + wanted + [(0,) * len(draft), draft]:
                self.told(strip in wanted, is_filling, sizes, draft, strip)

    def test_it_is_not_bounded(self):
        self.told(True, is_filling, (8, 8), (-1,) * 40, self.forty())
        self.told(False, is_filling, (8, 8), (-1,) * 40, (0,) * 40)
        self.told(False, is_filling, (2,), (-1,) * 40, (0,) * 40)

    def forty(self):
        """Forty places without eight evenly spaced ones of one hue."""
        strip = ()
        for place in range(40):
            hues = [hue for hue in (0, 1) if not wrong_rows((8, 8), strip + (hue,))]
            strip += (hues[place % len(hues)],)
        return strip

    def test_things_of_other_kinds(self):
        for sizes, draft in [((3, 3), (-1,)), ((3, 3), ()), ((2, 2, 2, 2), (0, -1, -1, -1))]:
            for thing in STRANGE + NUMBERS + [(BIG,), (0,) * 41, (-1,)]:
                self.told(False, is_filling, sizes, draft, thing)

    def test_of_a_draft_that_is_not_clean_there_is_none(self):
        self.told(False, is_filling, (3, 3), (0, 0, 0, -1), (0, 0, 0, 1))
        self.told(False, is_filling, (3, 3), (0, 0, 0), (0, 0, 0))


class Refused(Told, unittest.TestCase):

    def test_no_sizes_ahead_of_all(self):
        for thing in NO_SIZES:
            for draft in [(), (-1,), (-1,) * 40, (9,), None]:
                for call in BOUNDED:
                    self.refused(NoSizes, call, thing, draft)
                self.refused(NoSizes, is_filling, thing, draft, ())

    def test_no_draft_ahead_of_too_great(self):
        for thing in NO_DRAFTS + [(-1,) * 39 + (2,), (True,) + (-1,) * 39, [-1] * 40]:
            for call in BOUNDED:
                self.refused(NoDraft, call, (3, 3), thing)
            self.refused(NoDraft, is_filling, (3, 3), thing, ())
            self.refused(NoDraft, is_filling, (3, 3), thing, thing)


if __name__ == "__main__":
    unittest.main()
