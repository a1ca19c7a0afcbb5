"""Points [41] to [44]: papers that a draft has no filling, their leaves and their depth."""

import itertools
import random
import unittest

from evenhues.errors import NoDraft, NoPaper, NoSizes, TooGreat
from evenhues.papers import depth, is_paper, leaves, paper_for

from tests.helping import (
    BIG, BLANKS_512, NUMBERS, STRANGE, Told, blanked_drafts, blanks, fillings_gone_through, nested, places, power, put,
    wrong_rows,
)
from tests.test_drafts import NO_DRAFTS
from tests.test_fillings import SOME_SIZES, drafts_of
from tests.test_fits import NO_SIZES


def shows(sizes, draft, thing):
    """Whether the thing is a paper for the draft, by the words of the document."""
    if type(thing) is not tuple or len(thing) != 3 or type(thing[0]) is not str:
        return False
    if thing[0] == "row":
        first, step = thing[1:]
        if type(first) is not int or type(step) is not int or first < 0 or step < 1:
            return False
        for hue, size in enumerate(sizes):
            own = places((first, step), size)
            if own[-1] < len(draft) and all(draft[place] == hue for place in own):
                return True
        return False
    if thing[0] == "cases":
        place, papers = thing[1:]
        if type(place) is not int or place not in blanks(draft):
            return False
        if type(papers) is not tuple or len(papers) != len(sizes):
            return False
        return all(shows(sizes, put(draft, place, hue), paper) for hue, paper in enumerate(papers))
    return False


def paper_at_random(sizes, draft, chance, deepest):
    """Some paper, at blank places in any order and by any of the rows; None where none is found so deep."""
    rows = wrong_rows(sizes, draft)
    if rows and (not blanks(draft) or deepest == 0 or chance.random() < 0.8):
        return ("row",) + chance.choice(rows)
    if deepest == 0:
        return None
    for place in chance.sample(blanks(draft), len(blanks(draft))):
        papers = [paper_at_random(sizes, put(draft, place, hue), chance, deepest - 1) for hue in range(len(sizes))]
        if None not in papers:
            return ("cases", place, tuple(papers))
    return None


def depth_counted(paper):
    return 0 if paper[0] == "row" else 1 + max(depth_counted(part) for part in paper[2])


def leaves_counted(paper):
    return str(paper).count("'row'")


def papers_made(sizes, each=30, seed=41):
    """Pairs of drafts and papers for them, none to three cases deep."""
    chance = random.Random(seed)
    told = []
    for draft in blanked_drafts(sizes, 4, range(1, 12), each, seed):
        paper = paper_at_random(sizes, draft, chance, 3)
        if paper is not None:
            told.append((draft, paper))
    return told


def parts_otherwise(paper, length):
    """The paper with one thing of its outermost tuple otherwise."""
    word, one, other = paper
    told = [list(paper), paper + (0,), paper[:2], paper[1:], (paper,), [paper], paper[::-1], (word, other, one)]
    told += [(new, one, other) for new in ["row", "cases", "case", "Row", "", None, True, 0, ("row",), b"row"]]
    numbers = [-1, 0, 1, length, 40, BIG, -BIG, True, False, None, "1", (0,), [0]]
    told += [(word, new, other) for new in numbers]
    told += [(word, one + by, other) for by in (-1, 1)] + [(word, bool(one), other)]
    if word == "row":
        told += [(word, one, new) for new in numbers + [other + 1, other - 1, bool(other)]]
    else:
        told += [(word, one, new) for new in [list(other), other + other[:1], other[1:], other[:-1], (), other[::-1]]]
        told += [(word, one, new) for new in [dict(enumerate(other)), None, True, 1, ("row", 0, 1)]]
    return told


def otherwise(paper, length):
    """The paper with one thing otherwise, at any depth."""
    told = parts_otherwise(paper, length)
    if paper[0] == "cases":
        word, place, papers = paper
        for at, part in enumerate(papers):
            told += [(word, place, put(papers, at, new)) for new in otherwise(part, length)]
            told += [(word, place, put(papers, at, new)) for new in papers]
        told += list(papers)
    return told


class IsPaper(Told, unittest.TestCase):

    def test_some_by_hand(self):
        self.told(True, is_paper, (3, 3), (0, 0, 0), ("row", 0, 1))
        self.told(False, is_paper, (3, 3), (0, 0, 1), ("row", 0, 1))
        self.told(False, is_paper, (3, 3), (-1, -1, -1), ("row", 0, 1))
        self.told(False, is_paper, (3, 4), (1, 1, 1), ("row", 0, 1))
        self.told(True, is_paper, (3, 4), (1, 1, 1, 1), ("row", 0, 1))
        self.told(True, is_paper, (4, 3), (1, 1, 1, 1), ("row", 1, 1))
        self.told(False, is_paper, (4, 3), (1, 1, 1, 1), ("row", 2, 1))
        self.told(False, is_paper, (2,), (), ("row", 0, 1))
        rows = (("row", 0, 2), ("row", 1, 1))
        self.told(True, is_paper, (3, 3), (0, 1, -1, 1, 0), ("cases", 2, rows))
        self.told(False, is_paper, (3, 3), (0, 1, -1, 1, 0), ("cases", 2, rows[::-1]))
        self.told(False, is_paper, (3, 3), (0, 1, -1, 1, 0), ("cases", 2, rows[:1]))
        self.told(False, is_paper, (3, 3), (0, 1, -1, 1, 0), ("cases", 2, rows + rows[:1]))
        self.told(False, is_paper, (3, 3), (0, 1, -1, 1, 0), ("cases", 1, rows))
        self.told(True, is_paper, (2,), (-1, -1), ("cases", 1, (("cases", 0, (("row", 0, 1),)),)))
        # The same place twice is not blank the second time.
        self.told(False, is_paper, (2,), (-1, -1), ("cases", 1, (("cases", 1, (("row", 0, 1),)),)))

    def test_truths_in_the_place_of_numbers(self):
        self.told(False, is_paper, (3, 3), (0, 0, 0), ("row", False, 1))
        self.told(False, is_paper, (3, 3), (0, 0, 0), ("row", 0, True))
        self.told(False, is_paper, (2,), (-1, 0), ("cases", False, (("row", 0, 1),)))
        self.told(True, is_paper, (2,), (-1, 0), ("cases", 0, (("row", 0, 1),)))
        self.told(False, is_paper, (2,), (-1, 0), ("cases", 0, (("row", 0, True),)))

    def test_numbers_far_beyond(self):
        for number in [-1, -3, 3, 40, BIG, -BIG]:
            self.told(False, is_paper, (3, 3), (0, 0, 0), ("row", number, 1))
            self.told(False, is_paper, (3, 3), (0, 0, 0), ("row", 0, number))
            self.told(False, is_paper, (2,), (0, -1), ("cases", number, (("row", 0, 1),)))
        self.told(False, is_paper, (3, 3), (0, 0, 0), ("row", 0, 0))
        self.told(False, is_paper, (3, 3), (0, 0, 0), ("row", 2, -1))

    def test_papers_and_one_thing_otherwise(self):
        seen = set()
        for sizes in SOME_SIZES:
            for draft, paper in papers_made(sizes, each=2):
                self.assertTrue(shows(sizes, draft, paper))
                self.told(True, is_paper, sizes, draft, paper)
                seen.add(depth_counted(paper))
                others = otherwise(paper, len(draft))
                for other in others[::1 + len(others) // 200]:
                    self.told(shows(sizes, draft, other), is_paper, sizes, draft, other)
        self.assertEqual(seen, {0, 1, 2, 3})

    def test_each_row_by_itself(self):
        for sizes in SOME_SIZES:
            for draft in blanked_drafts(sizes, 6, range(8), 3, 42):
                wanted = wrong_rows(sizes, draft)
                for first, step in itertools.product(range(-1, 9), range(-1, 9)):
                    self.told((first, step) in wanted, is_paper, sizes, draft, ("row", first, step))

    def test_papers_of_another_draft(self):
        seen = set()
        for sizes in [(2,), (3, 3), (2, 2), (2, 3, 2), (2, 2, 2, 2)]:
            made = papers_made(sizes, each=4, seed=43)
            for (draft, own), (other, paper) in itertools.product(made, made):
                wanted = shows(sizes, draft, paper)
                self.told(wanted, is_paper, sizes, draft, paper)
                seen.add(wanted)
        self.assertEqual(seen, {True, False})

    def test_things_of_other_kinds(self):
        deep = [nested(20, lambda x: ("cases", 0, (x,))), nested(39, lambda x: ("cases", 0, x))]
        words = ["row", "cases", ("row",), ("row", 0), ("cases", 0), ("cases", 0, ()), ("row", 0, 1, 1), ["row", 0, 1]]
        for draft in [(), (-1,), (-1,) * 40, (0, 0, 0)]:
            for thing in STRANGE + NUMBERS + deep + words:
                if thing != ("row", 0, 1):
                    self.told(False, is_paper, (3,), draft, thing)
                self.told(False, is_paper, (3,), draft, ("cases", 0, thing))
                self.told(False, is_paper, (3,), draft, ("cases", thing, (("row", 0, 1),)))
                self.told(False, is_paper, (3,), draft, (thing, 0, 1) if thing != "row" else thing)

    def test_twenty_cases_within_one_another(self):
        # As deep as forty lets: each of the cases is two deep, and the row one.
        paper = ("row", 0, 1)
        for place in range(19):
            paper = ("cases", place, (paper,))
        self.told(True, is_paper, (8,), (-1,) * 40, paper)
        self.told(True, is_paper, (8,), (-1,) * 19, paper)
        self.told(False, is_paper, (8,), (-1,) * 18, paper)
        self.told(19, depth, (8,), (-1,) * 40, paper)
        self.told(1, leaves, (8,), (-1,) * 40, paper)


class PaperFor(Told, unittest.TestCase):

    def test_a_paper_just_where_there_is_no_filling(self):
        seen = set()
        for sizes in SOME_SIZES:
            for draft in drafts_of(sizes):
                paper = self.ask(paper_for, sizes, draft)
                if fillings_gone_through(sizes, draft):
                    self.assertIsNone(paper)
                    seen.add(None)
                else:
                    self.assertTrue(shows(sizes, draft, paper), (sizes, draft, paper))
                    self.told(True, is_paper, sizes, draft, paper)
                    self.told(leaves_counted(paper), leaves, sizes, draft, paper)
                    self.told(depth_counted(paper), depth, sizes, draft, paper)
                    seen.add(depth_counted(paper))
        self.assertTrue({None, 0, 1, 2, 3, 4, 5} <= seen)

    def test_some_by_hand(self):
        self.told(None, paper_for, (3, 3), ())
        self.told(None, paper_for, (3, 3), (-1,) * 8)
        self.told(("row", 0, 1), paper_for, (3, 3), (0, 0, 0))
        self.told(("cases", 2, (("row", 0, 2), ("row", 1, 1))), paper_for, (3, 3), (0, 1, -1, 1, 0))

    def test_just_so_many_blanks_as_are_let_and_one_more(self):
        for sizes in SOME_SIZES:
            many = BLANKS_512[len(sizes)]
            for draft in [(-1,) * many, (0,) + (-1,) * many]:
                paper = self.ask(paper_for, sizes, draft)
                none = not fillings_gone_through(sizes, draft)
                self.assertEqual(paper is not None, none)
                self.assertEqual(shows(sizes, draft, paper), none)
            for draft in [(-1,) * (many + 1), (0,) * (39 - many) + (-1,) * (many + 1), (-1,) * 40]:
                error = self.refused(TooGreat, paper_for, sizes, draft)
                self.assertEqual((error.many, error.most), (power(sizes, draft), 512))


class LeavesAndDepth(Told, unittest.TestCase):

    def test_some_by_hand(self):
        self.told(1, leaves, (3, 3), (0, 0, 0), ("row", 0, 1))
        self.told(0, depth, (3, 3), (0, 0, 0), ("row", 0, 1))
        paper = ("cases", 2, (("row", 0, 2), ("row", 1, 1)))
        self.told(2, leaves, (3, 3), (0, 1, -1, 1, 0), paper)
        self.told(1, depth, (3, 3), (0, 1, -1, 1, 0), paper)
        paper = ("cases", 0, (("cases", 1, (("row", 0, 1), ("cases", 2, (("row", 0, 2), ("row", 1, 1))))),
                              ("cases", 1, (("cases", 2, (("row", 1, 1), ("row", 0, 2))), ("row", 0, 1)))))
        self.told(6, leaves, (2, 2), (-1, -1, -1), paper)
        self.told(3, depth, (2, 2), (-1, -1, -1), paper)
        paper = ("cases", 0, (("row", 1, 1), ("cases", 3, (("row", 1, 1), ("row", 1, 1)))))
        self.told(3, leaves, (2, 2), (-1, 0, 0, -1), paper)
        self.told(2, depth, (2, 2), (-1, 0, 0, -1), paper)

    def test_counted(self):
        for sizes in SOME_SIZES:
            for draft, paper in papers_made(sizes, each=8, seed=45):
                self.told(leaves_counted(paper), leaves, sizes, draft, paper)
                self.told(depth_counted(paper), depth, sizes, draft, paper)

    def test_no_paper(self):
        for draft in [(), (-1,), (0, 0, 0), (0, 1, -1, 1, 0)]:
            for thing in STRANGE + NUMBERS + [("row", 0, 3), ("cases", 2, ()), ("row", False, 1), ["row", 0, 1]]:
                if not shows((3, 3), draft, thing):
                    self.refused(NoPaper, leaves, (3, 3), draft, thing)
                    self.refused(NoPaper, depth, (3, 3), draft, thing)
        self.refused(NoPaper, depth, (3, 3), (-1,) * 8, paper_for((3, 3), (-1,) * 9))

    def test_one_thing_otherwise(self):
        for sizes in [(2, 3), (2,), (2, 2, 2)]:
            for draft, paper in papers_made(sizes, each=1, seed=46):
                for other in otherwise(paper, len(draft))[::3]:
                    if not shows(sizes, draft, other):
                        self.refused(NoPaper, leaves, sizes, draft, other)
                        self.refused(NoPaper, depth, sizes, draft, other)


class Refused(Told, unittest.TestCase):

    def test_no_sizes_ahead_of_all(self):
        for thing in NO_SIZES:
            for draft in [(), (-1,) * 40, (9,), None]:
                self.refused(NoSizes, paper_for, thing, draft)
                for call in (is_paper, leaves, depth):
                    self.refused(NoSizes, call, thing, draft, ("row", 0, 1))
                    self.refused(NoSizes, call, thing, draft, None)

    def test_no_draft_ahead_of_the_rest(self):
        for thing in NO_DRAFTS + [(-1,) * 39 + (2,), [-1] * 40]:
            self.refused(NoDraft, paper_for, (3, 3), thing)
            for call in (is_paper, leaves, depth):
                self.refused(NoDraft, call, (3, 3), thing, ("row", 0, 1))
                self.refused(NoDraft, call, (3, 3), thing, None)


class WhatThereforeHolds(Told, unittest.TestCase):

    def test_where_there_is_a_paper_there_is_no_filling(self):
        for sizes in SOME_SIZES:
            for draft, paper in papers_made(sizes, each=6, seed=47):
                self.assertEqual(fillings_gone_through(sizes, draft), [])

    def test_leaves_between_depth_and_the_power(self):
        for sizes in SOME_SIZES:
            for draft, paper in papers_made(sizes, each=10, seed=48):
                many, deep = leaves(sizes, draft, paper), depth(sizes, draft, paper)
                self.assertLessEqual(many, len(sizes) ** deep)
                if len(sizes) > 1:
                    self.assertGreaterEqual(many, deep)


if __name__ == "__main__":
    unittest.main()
