"""Points [33], [34] and [35]: runs of drafts, and reasons for what they put."""

import itertools
import random
import unittest

from evenhues.errors import NoDraft, NoSizes
from evenhues.fillings import all_fillings
from evenhues.runs import are_reasons, reasons_for, run

from tests.helping import (
    BIG, BLANKS_512, NUMBERS, STRANGE, Told, barring, blanked_drafts, blanks, put, same_kind, wrong_rows,
)
from tests.test_drafts import NO_DRAFTS, drafts_of
from tests.test_fillings import SOME_SIZES
from tests.test_fits import NO_SIZES


def run_step_by_step(sizes, draft):
    """The run by the words of the document."""
    steps = []
    while True:
        for place in blanks(draft):
            open_ones = [hue for hue in range(len(sizes)) if not barring(sizes, draft, place, hue)]
            if len(open_ones) <= 1:
                break
        else:
            return (draft, steps, None)
        if not open_ones:
            return (draft, steps, place)
        steps.append((place, open_ones[0]))
        draft = put(draft, place, open_ones[0])


def some_drafts(sizes):
    small = [draft for many in range(4) for draft in itertools.product(range(-1, len(sizes)), repeat=many)]
    return small + drafts_of(sizes, many=8) + blanked_drafts(sizes, 9, range(4, 20, 3), 6, 71)


def is_row_that_bars(sizes, draft, place, hue, row):
    return isinstance(row, tuple) and any(same_kind(row, other) for other in barring(sizes, draft, place, hue))


def holds(sizes, draft, thing):
    """Whether the thing is reasons of the draft, by the words of the document."""
    if not isinstance(thing, list):
        return False
    for reason in thing:
        if type(reason) is not tuple or len(reason) != 3:
            return False
        place, hue, rows = reason
        if type(place) is not int or place not in blanks(draft):
            return False
        if type(hue) is not int or hue not in range(len(sizes)):
            return False
        if type(rows) is not tuple or len(rows) != len(sizes):
            return False
        for other, row in enumerate(rows):
            if other == hue:
                if row is not None:
                    return False
            elif not is_row_that_bars(sizes, draft, place, other, row):
                return False
        draft = put(draft, place, hue)
    return True


def reasons_at_random(sizes, draft, chance):
    """Reasons of the draft, in any order, by any of the rows."""
    told = []
    while True:
        found = []
        for place in blanks(draft):
            bars = [barring(sizes, draft, place, hue) for hue in range(len(sizes))]
            for hue in range(len(sizes)):
                if all(rows for other, rows in enumerate(bars) if other != hue):
                    rows = [None if other == hue else chance.choice(rows) for other, rows in enumerate(bars)]
                    found.append((place, hue, tuple(rows)))
        if not found or len(told) == 6:
            return told
        told.append(chance.choice(found))
        draft = put(draft, told[-1][0], told[-1][1])


def otherwise(sizes, reasons):
    """The reasons with one thing otherwise."""
    told = [tuple(reasons), {0: reasons}, [reasons]]
    for at, (place, hue, rows) in enumerate(reasons):
        ahead, behind = reasons[:at], reasons[at + 1:]
        own = reasons[at]
        new = [list(own), own + (None,), own[:2], (own,), (hue, place, rows), (place, hue, list(rows))]
        new += [(other, hue, rows) for other in [place - 1, place + 1, -1, 40, BIG, True, False, None, str(place)]]
        new += [(place, other, rows) for other in [hue - 1, hue + 1, -1, 4, BIG, True, False, None, str(hue)]]
        new += [(place, hue, rows + (None,)), (place, hue, rows + ((0, 1),)), (place, hue, rows[:-1]), (place, hue, ())]
        for which, row in enumerate(rows):
            others = [None, (), (0, 1), (0, 2), (1, 1), True, "row", [0, 1], (-1, 1), (0, 0), (3, -1), (BIG, 1), (0, BIG)]
            if row is not None:
                others += [list(row), row + (1,), row[:1], (row[0] + 1, row[1]), (row[0], row[1] + 1), (row,)]
                others += [(bool(row[0]), row[1]), (row[0], bool(row[1])), (bool(row[0]), bool(row[1])), row[::-1]]
            new += [(place, hue, put(rows, which, other)) for other in others]
            if which:
                new.append((place, hue, put(put(rows, which, rows[0]), 0, row)))
        told += [ahead + [reason] + behind for reason in new]
        told += [ahead + behind, ahead + [own, own] + behind, reasons + [own]]
    return told


class Run(Told, unittest.TestCase):

    def test_some_by_hand(self):
        self.told(((), [], None), run, (3, 3), ())
        self.told(((0, 1), [], None), run, (3, 3), (0, 1))
        self.told(((-1, -1), [], None), run, (3, 3), (-1, -1))
        self.told(((0, 1, -1, 1, 0), [], 2), run, (3, 3), (0, 1, -1, 1, 0))
        self.told(((0, 0, 1), [(2, 1)], None), run, (3, 3), (0, 0, -1))
        self.told(((0, 0, 1, -1), [(2, 1)], None), run, (3, 3), (0, 0, -1, -1))
        self.told(((0,), [(0, 0)], None), run, (2,), (-1,))
        self.told(((0, -1, -1), [(0, 0)], 1), run, (2,), (-1, -1, -1))
        self.told(((0, 0, -1), [(0, 0), (1, 0)], 2), run, (3,), (-1, -1, -1))
        # Behind a step the run looks from the first blank place on again.
        self.told(((0, 0, 1, 0, 1), [(2, 1), (0, 0)], None), run, (3, 3), (-1, 0, -1, 0, 1))

    def test_a_draft_that_is_not_clean(self):
        self.told(((0, 0, 0, 1), [(3, 1)], None), run, (3, 3), (0, 0, 0, -1))
        self.told(((0, 0, 0), [], None), run, (3, 3), (0, 0, 0))

    def test_step_by_step(self):
        seen = set()
        for sizes in SOME_SIZES:
            for draft in some_drafts(sizes):
                wanted = run_step_by_step(sizes, draft)
                self.told(wanted, run, sizes, draft)
                end, steps, stuck = wanted
                seen.add((bool(steps), stuck is not None, bool(blanks(end)), not wrong_rows(sizes, draft)))
        for clean in (True, False):
            for what in [(False, True, True), (True, True, True), (True, False, True), (True, False, False),
                         (False, False, True), (False, False, False)]:
                self.assertIn(what + (clean,), seen)

    def test_the_steps_are_the_askers_own(self):
        steps = run((3,), (-1, -1, -1))[1]
        steps.clear()
        self.assertEqual(run((3,), (-1, -1, -1))[1], [(0, 0), (1, 0)])


class AreReasons(Told, unittest.TestCase):

    def test_none_at_all(self):
        for sizes in SOME_SIZES:
            for draft in [(), (-1,), (0,) * 9, (-1,) * 40]:
                self.told(True, are_reasons, sizes, draft, [])
                self.told(False, are_reasons, sizes, draft, ())

    def test_some_by_hand(self):
        self.told(True, are_reasons, (3, 3), (0, 0, -1), [(2, 1, ((0, 1), None))])
        self.told(False, are_reasons, (3, 3), (0, 0, -1), [(2, 0, (None, (0, 1)))])
        self.told(True, are_reasons, (3,), (-1, -1), [(1, 0, (None,)), (0, 0, (None,))])
        # One hue alone is barred by none, so that it may be put though a row bars it.
        self.told(True, are_reasons, (2,), (-1, 0), [(0, 0, (None,))])
        self.told(True, are_reasons, (3, 3), (0, 1, -1, 1, 0), [(2, 0, (None, (1, 1)))])
        self.told(True, are_reasons, (3, 3), (0, 1, -1, 1, 0), [(2, 1, ((0, 2), None))])
        self.told(False, are_reasons, (3, 3), (0, 0, -1, 0, 0), [(2, 1, ((0, 1), None)), (2, 1, ((0, 1), None))])

    def test_in_other_orders_and_with_one_thing_otherwise(self):
        chance = random.Random(34)
        seen = set()
        for sizes in SOME_SIZES:
            for draft in blanked_drafts(sizes, 7, range(1, 13, 2), 4, 35):
                reasons = reasons_at_random(sizes, draft, chance)
                self.told(True, are_reasons, sizes, draft, reasons)
                for other in otherwise(sizes, reasons):
                    wanted = holds(sizes, draft, other)
                    self.told(wanted, are_reasons, sizes, draft, other)
                    seen.add(wanted)
        self.assertEqual(seen, {True, False})

    def test_reasons_of_another_draft(self):
        for sizes in [(3, 3), (2, 2), (2, 2, 2)]:
            drafts = blanked_drafts(sizes, 4, [5, 6, 7], 8, 36)
            for draft, other in itertools.product(drafts, drafts):
                reasons = reasons_for(sizes, other)
                self.told(holds(sizes, draft, reasons), are_reasons, sizes, draft, reasons)

    def test_truths_in_the_place_of_numbers(self):
        # All that follows would be reasons if True were 1 and False were 0.
        self.told(True, are_reasons, (3, 3), (-1, 0, 0), [(0, 1, ((0, 1), None))])
        self.told(False, are_reasons, (3, 3), (-1, 0, 0), [(False, 1, ((0, 1), None))])
        self.told(False, are_reasons, (3, 3), (-1, 0, 0), [(0, True, ((0, 1), None))])
        self.told(False, are_reasons, (3, 3), (-1, 0, 0), [(0, 1, ((False, 1), None))])
        self.told(False, are_reasons, (3, 3), (-1, 0, 0), [(0, 1, ((0, True), None))])
        self.told(False, are_reasons, (3, 3), (-1, 0, 0), [(0, 1, ((0, 1), False))])

    def test_things_of_other_kinds(self):
        for draft in [(), (-1,), (-1, 0, 0), (0, 1, -1, 1, 0)]:
            for thing in STRANGE + NUMBERS:
                wanted = isinstance(thing, list) and not thing
                self.told(wanted, are_reasons, (3, 3), draft, thing)
                self.told(False, are_reasons, (3, 3), draft, [thing])
                self.told(False, are_reasons, (3, 3), draft, [(0, 1, thing)])
                self.told(False, are_reasons, (3, 3), draft, [(thing, 1, ((0, 1), None))] if thing != 0 else [thing])
                self.told(False, are_reasons, (3, 3), draft, [(0, thing, ((0, 1), None))] if thing != 1 else [thing])
                self.told(False, are_reasons, (3, 3), draft, [(0, 1, (thing, None))])


class ReasonsFor(Told, unittest.TestCase):

    def test_they_have_the_steps_of_the_run(self):
        many = 0
        for sizes in SOME_SIZES:
            for draft in some_drafts(sizes):
                reasons = self.ask(reasons_for, sizes, draft)
                self.assertIs(type(reasons), list)
                self.assertEqual([reason[:2] for reason in reasons], run_step_by_step(sizes, draft)[1])
                self.assertTrue(holds(sizes, draft, reasons))
                self.told(True, are_reasons, sizes, draft, reasons)
                many += len(reasons)
        self.assertGreater(many, 500)

    def test_some_by_hand(self):
        self.told([], reasons_for, (3, 3), ())
        self.told([(2, 1, ((0, 1), None))], reasons_for, (3, 3), (0, 0, -1))
        self.told([(0, 0, (None,)), (1, 0, (None,))], reasons_for, (3,), (-1, -1, -1))
        self.told([], reasons_for, (3, 3), (0, 1, -1, 1, 0))


class WhatThereforeHolds(Told, unittest.TestCase):

    def test_fillings_have_what_reasons_put(self):
        chance = random.Random(38)
        seen = 0
        for sizes in SOME_SIZES:
            for draft in blanked_drafts(sizes, BLANKS_512[len(sizes)], range(1, 13), 4, 37):
                fillings = all_fillings(sizes, draft)
                for reasons in [reasons_for(sizes, draft), reasons_at_random(sizes, draft, chance)]:
                    for place, hue, rows in reasons:
                        seen += len(fillings)
                        self.assertEqual([filling[place] for filling in fillings], [hue] * len(fillings))
                end, steps, stuck = run(sizes, draft)
                if stuck is not None:
                    self.assertEqual(fillings, [])
        self.assertGreater(seen, 100)

    def test_a_run_changes_no_place_that_is_not_blank(self):
        for sizes in SOME_SIZES:
            for draft in some_drafts(sizes):
                end, steps, stuck = run(sizes, draft)
                self.assertEqual(len(end), len(draft))
                for place, hue in enumerate(draft):
                    self.assertIn(hue, (-1, end[place]))


class Refused(Told, unittest.TestCase):

    def test_no_sizes_ahead_of_all(self):
        for thing in NO_SIZES:
            for draft in [(), (-1,), (9,), None]:
                self.refused(NoSizes, run, thing, draft)
                self.refused(NoSizes, reasons_for, thing, draft)
                self.refused(NoSizes, are_reasons, thing, draft, [])

    def test_no_draft(self):
        for thing in NO_DRAFTS:
            self.refused(NoDraft, run, (3, 3), thing)
            self.refused(NoDraft, reasons_for, (3, 3), thing)
            self.refused(NoDraft, are_reasons, (3, 3), thing, [])
            self.refused(NoDraft, are_reasons, (3, 3), thing, None)


if __name__ == "__main__":
    unittest.main()
