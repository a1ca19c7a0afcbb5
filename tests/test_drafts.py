"""Point [31]: drafts, clean ones, and the rows that bar a hue."""

import itertools
import unittest

from evenhues.drafts import bars, clean, is_draft, open_hues
from evenhues.errors import NoDraft, NoHue, NoPlace, NoSizes

from tests.helping import BIG, NO_WHOLES, NUMBERS, STRANGE, Told, barring, mixed_strips, wrong_rows
from tests.test_fits import NO_SIZES

SOME_SIZES = [(2,), (3,), (3, 3), (2, 3), (8, 2), (4, 3), (2, 2, 2), (3, 2, 4), (3, 3, 3, 3), (2, 8, 2, 8)]
NO_DRAFTS = STRANGE + NUMBERS + [(-1,) * 41, (0,) * 41, (-2,), (2,), (0, 1, 2), (-1, -1, 4), (BIG,)]


def drafts_of(sizes, many=25, most=40):
    """Drafts of many lengths, some with few blanks and some with many."""
    hues = len(sizes)
    told = []
    for strip in mixed_strips(many, hues=hues + 1, most=most) + mixed_strips(many, hues=2 * hues, most=most):
        told.append(tuple(hue if hue < hues else -1 for hue in strip))
    return told


class IsDraft(Told, unittest.TestCase):

    def test_drafts(self):
        for sizes in SOME_SIZES:
            for draft in [(), (-1,), (0,), (-1,) * 40, (0,) * 40, (len(sizes) - 1, -1)] + drafts_of(sizes):
                self.told(True, is_draft, sizes, draft)

    def test_forty_one_places_are_none(self):
        for sizes in SOME_SIZES:
            self.told(False, is_draft, sizes, (-1,) * 41)
            self.told(False, is_draft, sizes, (0,) * 1000)

    def test_a_wrong_one_at_any_place(self):
        for sizes in SOME_SIZES:
            for wrong in [-2, len(sizes), 4, True, False, None, "0", ".", (0,), (), [0], {}, BIG, -BIG]:
                self.told(False, is_draft, sizes, (wrong,))
                for place in (0, 1, 20, 39):
                    self.told(False, is_draft, sizes, (-1,) * place + (wrong,) + (0,) * (39 - place))

    def test_things_of_other_kinds(self):
        for thing in STRANGE + NUMBERS:
            self.told(False, is_draft, (3, 3, 3, 3), thing)

    def test_no_sizes(self):
        for thing in NO_SIZES:
            self.refused(NoSizes, is_draft, thing, ())
            self.refused(NoSizes, is_draft, thing, None)


class Clean(Told, unittest.TestCase):

    def test_some_by_hand(self):
        self.told(True, clean, (3, 3), ())
        self.told(True, clean, (2,), (-1,) * 40)
        self.told(True, clean, (3, 3), (0, -1, 0, -1, -1))
        self.told(False, clean, (3, 3), (0, -1, 0, -1, 0))
        self.told(False, clean, (2, 3), (1, 1, -1, 0, 1, 0))
        self.told(True, clean, (8, 3), (0,) * 7 + (-1,))
        self.told(False, clean, (3, 8), (0,) * 7 + (-1,))
        self.told(False, clean, (2,), (0,) + (-1,) * 38 + (0,))

    def test_against_all_rows(self):
        seen = set()
        for sizes in SOME_SIZES:
            small = [d for many in range(5) for d in itertools.product(range(-1, len(sizes)), repeat=many)]
            for draft in drafts_of(sizes) + small:
                wanted = not wrong_rows(sizes, draft)
                self.told(wanted, clean, sizes, draft)
                seen.add(wanted)
        self.assertEqual(seen, {True, False})


class Bars(Told, unittest.TestCase):

    def test_some_by_hand(self):
        self.told([(0, 1), (0, 2), (1, 1), (2, 1)], bars, (3, 3), (0, 0, -1, 0, 0), 2, 0)
        self.told([], bars, (3, 3), (0, 0, -1, 0, 0), 2, 1)
        self.told((1,), open_hues, (3, 3), (0, 0, -1, 0, 0), 2)
        self.told([(0, 2)], bars, (3, 3), (0, 1, -1, 1, 0), 2, 0)
        self.told([(1, 1)], bars, (3, 3), (0, 1, -1, 1, 0), 2, 1)
        self.told((), open_hues, (3, 3), (0, 1, -1, 1, 0), 2)
        self.told([], bars, (3, 3), (-1,), 0, 0)
        self.told((0, 1), open_hues, (3, 3), (-1,), 0)
        self.told([(0, 1)], bars, (2,), (-1, 0), 0, 0)
        self.told([(0, 39)], bars, (2, 8), (-1,) * 39 + (0,), 0, 0)
        self.told([], bars, (3, 3), (0, -1, -1), 1, 0)

    def test_a_draft_that_is_not_clean_is_asked_likewise(self):
        self.told([(1, 1)], bars, (3, 3), (0, 0, 0, -1), 3, 0)
        self.told((1,), open_hues, (3, 3), (0, 0, 0, -1), 3)

    def test_each_blank_place_and_hue(self):
        seen = set()
        for sizes in SOME_SIZES:
            for draft in drafts_of(sizes):
                for place in [at for at, hue in enumerate(draft) if hue == -1]:
                    wanted = [barring(sizes, draft, place, hue) for hue in range(len(sizes))]
                    for hue, rows in enumerate(wanted):
                        self.told(rows, bars, sizes, draft, place, hue)
                    hues = tuple(hue for hue, rows in enumerate(wanted) if not rows)
                    self.told(hues, open_hues, sizes, draft, place)
                    seen.add(len(hues))
        self.assertEqual(seen, {0, 1, 2, 3, 4})


class Refused(Told, unittest.TestCase):

    DRAFT = (-1, 0, 1, -1)

    def test_no_sizes_ahead_of_all(self):
        for thing in NO_SIZES:
            for draft, place, hue in [(self.DRAFT, 0, 0), ((9,), 0, 0), (self.DRAFT, 1, 0), ("no", None, True)]:
                self.refused(NoSizes, clean, thing, draft)
                self.refused(NoSizes, bars, thing, draft, place, hue)
                self.refused(NoSizes, open_hues, thing, draft, place)

    def test_no_draft(self):
        for thing in NO_DRAFTS:
            self.refused(NoDraft, clean, (3, 3), thing)
            for place, hue in [(0, 0), (-1, 0), (0, 2), (None, "x")]:
                self.refused(NoDraft, bars, (3, 3), thing, place, hue)
                self.refused(NoDraft, open_hues, (3, 3), thing, place)

    def test_no_blank_place(self):
        for place in [1, 2, 4, 5, -1, -4, BIG, -BIG] + NO_WHOLES:
            self.refused(NoPlace, open_hues, (3, 3), self.DRAFT, place)
            for hue in [0, 2, -1, True, "x"]:
                self.refused(NoPlace, bars, (3, 3), self.DRAFT, place, hue)
        self.refused(NoPlace, bars, (3, 3), (), 0, 0)
        self.refused(NoPlace, open_hues, (3, 3), (), 0)
        # True would stand for the place 1, which is blank here.
        self.refused(NoPlace, bars, (3, 3), (0, -1), True, 0)
        self.refused(NoPlace, open_hues, (3, 3), (-1, 0), False)

    def test_no_hue(self):
        for sizes in SOME_SIZES:
            for hue in [-1, len(sizes), 4, BIG, -BIG] + NO_WHOLES:
                self.refused(NoHue, bars, sizes, (-1, 0), 0, hue)


if __name__ == "__main__":
    unittest.main()
