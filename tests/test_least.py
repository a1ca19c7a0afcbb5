"""Points [43] and [44]: the papers with the least leaves, and with the least depth."""

import itertools
import unittest

from evenhues.errors import NoDraft, NoSizes, TooGreat
from evenhues.least import least_depth, least_leaves, short_paper
from evenhues.papers import is_paper

from tests.helping import (
    BLANKS_32, Told, blanked_drafts, blanks, fillings_gone_through, mixed_strips, power, put, wrong_rows,
)
from tests.test_drafts import NO_DRAFTS
from tests.test_fillings import SOME_SIZES
from tests.test_fits import NO_SIZES
from tests.test_papers import depth_counted, leaves_counted, shows

ALL = (least_leaves, least_depth, short_paper)


def all_papers(sizes, draft):
    """Every paper for the draft, of both kinds, at every blank place; but of rows that are all one the first."""
    told = [("row",) + row for row in wrong_rows(sizes, draft)[:1]]
    for place in blanks(draft):
        parts = [all_papers(sizes, put(draft, place, hue)) for hue in range(len(sizes))]
        told += [("cases", place, papers) for papers in itertools.product(*parts)]
    return told


def leaves_that_come(sizes, draft, known):
    """All numbers of leaves that papers for the draft have; each draft is looked at once."""
    if draft not in known:
        told = {1} if wrong_rows(sizes, draft) else set()
        for place in blanks(draft):
            sums = {0}
            for hue in range(len(sizes)):
                more = leaves_that_come(sizes, put(draft, place, hue), known)
                sums = {one + other for one in sums for other in more}
            told |= sums
        known[draft] = told
    return known[draft]


def depths_that_come(sizes, draft, known):
    """All depths that papers for the draft have; each draft is looked at once."""
    if draft not in known:
        told = {0} if wrong_rows(sizes, draft) else set()
        for place in blanks(draft):
            parts = [depths_that_come(sizes, put(draft, place, hue), known) for hue in range(len(sizes))]
            told |= {1 + max(depths) for depths in itertools.product(*parts)}
        known[draft] = told
    return known[draft]


def drafts_of(sizes):
    """Drafts of none to twelve places, and some of forty."""
    most = BLANKS_32[len(sizes)]
    return blanked_drafts(sizes, most, range(13), 5, 43) + blanked_drafts(sizes, most, [25, 40], 2, 44)


class Least(Told, unittest.TestCase):

    def least(self, sizes, draft, fewest, shallowest):
        self.told(fewest, least_leaves, sizes, draft)
        self.told(shallowest, least_depth, sizes, draft)
        paper = self.ask(short_paper, sizes, draft)
        if fewest is None:
            self.assertIsNone(paper)
        else:
            self.assertTrue(shows(sizes, draft, paper), (sizes, draft, paper))
            self.told(True, is_paper, sizes, draft, paper)
            self.assertEqual(leaves_counted(paper), fewest)
            self.assertGreaterEqual(depth_counted(paper), shallowest)

    def test_some_by_hand(self):
        self.least((3, 3), (), None, None)
        self.least((3, 3), (-1,) * 5, None, None)
        self.least((3, 3), (0, 0, 0), 1, 0)
        self.least((3, 3), (0, 0, 0, -1), 1, 0)
        self.least((3, 3), (0, 1, -1, 1, 0), 2, 1)
        self.least((2,), (-1, -1), 1, 2)
        self.least((2,), (-1,) * 5, 1, 2)
        self.least((2, 2), (0, -1, -1), 3, 2)
        # The second place is the better one to begin with here: it has no open hue.
        self.least((3, 3), (-1, 0, 1, -1, 1, 0), 2, 1)

    def test_against_every_paper(self):
        for sizes in SOME_SIZES:
            for draft in blanked_drafts(sizes, min(3, BLANKS_32[len(sizes)]), range(1, 11), 2, 46):
                papers = all_papers(sizes, draft)
                self.least(sizes, draft, min(map(leaves_counted, papers), default=None),
                           min(map(depth_counted, papers), default=None))

    def test_against_what_papers_have(self):
        seen = set()
        for sizes in SOME_SIZES:
            for draft in drafts_of(sizes):
                fewest = min(leaves_that_come(sizes, draft, {}), default=None)
                shallowest = min(depths_that_come(sizes, draft, {}), default=None)
                self.least(sizes, draft, fewest, shallowest)
                self.assertEqual(fewest is None, bool(fillings_gone_through(sizes, draft)))
                seen.add(shallowest)
        self.assertTrue({None, 0, 1, 2, 3} <= seen)

    def test_just_so_many_blanks_as_are_let(self):
        for sizes in SOME_SIZES + [(8, 8), (8, 8, 8), (8, 8, 8, 8)]:
            many = BLANKS_32[len(sizes)]
            strip = mixed_strips(41, hues=len(sizes))[17]
            for draft in [(-1,) * many, (0,) + (-1,) * many, (-1,) * many + strip[many:], strip[many:] + (-1,) * many]:
                self.assertEqual(draft.count(-1), many)
                fewest = min(leaves_that_come(sizes, draft, {}), default=None)
                self.least(sizes, draft, fewest, min(depths_that_come(sizes, draft, {}), default=None))

    def test_one_blank_more(self):
        for sizes in SOME_SIZES:
            for many in range(BLANKS_32[len(sizes)] + 1, 41):
                for draft in [(-1,) * many, (0,) * (40 - many) + (-1,) * many]:
                    for call in ALL:
                        error = self.refused(TooGreat, call, sizes, draft)
                        self.assertEqual((error.many, error.most), (power(sizes, draft), 32))


class Refused(Told, unittest.TestCase):

    def test_no_sizes_ahead_of_all(self):
        for thing in NO_SIZES:
            for draft in [(), (-1,) * 40, (9,), None]:
                for call in ALL:
                    self.refused(NoSizes, call, thing, draft)

    def test_no_draft_ahead_of_too_great(self):
        for thing in NO_DRAFTS + [(-1,) * 39 + (2,), (True,) + (-1,) * 39, [-1] * 40]:
            for call in ALL:
                self.refused(NoDraft, call, (3, 3), thing)


class WhatThereforeHolds(Told, unittest.TestCase):

    def test_depth_0_and_the_blanks(self):
        for sizes in SOME_SIZES:
            for draft in drafts_of(sizes):
                least = least_depth(sizes, draft)
                self.assertEqual(least == 0, bool(wrong_rows(sizes, draft)))
                if least is not None:
                    self.assertLessEqual(least, draft.count(-1))
                    self.assertLessEqual(least_leaves(sizes, draft), len(sizes) ** least)


if __name__ == "__main__":
    unittest.main()
