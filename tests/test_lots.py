"""Point [61], what [64] says of lots that hit, and [65] of them: lots and even rows."""

import itertools
import random
import unittest

from evenhues.errors import NoLot, NoNumber
from evenhues.lots import first_full, hits, is_bare, is_lot

from tests.helping import BIG, NUMBERS, STRANGE, Told, places, put, rows_gone_through, wrong_numbers

NO_LOTS = STRANGE + NUMBERS + [
    (-1,), (40,), (0, 40), (-1, 0), (1, 0), (0, 0), (0, 2, 1), (0, 1, 1), (39, 39), (5, 4, 3), (BIG,), (-BIG, 0),
    [0, 1], {0: 1}, tuple(range(41)), tuple(range(40)) + (39,), tuple(range(-1, 39)), (0,) * 1000,
]


def some_lots(many=60, seed=61):
    """Lots of all sorts: few places, many places, none, all."""
    chance = random.Random(seed)
    told = [(), (0,), (39,), (0, 39), tuple(range(40)), tuple(range(0, 40, 2)), tuple(range(1, 40, 3))]
    for at in range(many):
        below = chance.choice([5, 10, 20, 40])
        told.append(tuple(sorted(chance.sample(range(below), chance.randint(0, below if at % 2 else below // 3)))))
    return told


def full_rows(size, lot):
    return [row for row in rows_gone_through(40, size) if all(place in lot for place in places(row, size))]


def hits_by_all_rows(size, length, lot):
    return all(any(place in lot for place in places(row, size)) for row in rows_gone_through(length, size))


class IsLot(Told, unittest.TestCase):

    def test_lots(self):
        for lot in some_lots():
            self.told(True, is_lot, lot)
        for place in range(40):
            self.told(True, is_lot, (place,))

    def test_all_short_tuples(self):
        for many in range(4):
            for thing in itertools.product((-1, 0, 1, 2, 38, 39, 40), repeat=many):
                wanted = all(0 <= place < 40 for place in thing) and list(thing) == sorted(set(thing))
                self.told(wanted, is_lot, thing)

    def test_a_wrong_one_at_any_place(self):
        lot = tuple(range(0, 40, 3))
        for place in range(len(lot)):
            for wrong in [-1, 40, BIG, -BIG, True, False, None, "3", "", (3,), [3], {}, ()]:
                self.told(False, is_lot, put(lot, place, wrong))
            self.told(False, is_lot, lot[:place] + lot[place:place + 1] + lot[place:])
            if place:
                self.told(False, is_lot, put(put(lot, place, lot[place - 1]), place - 1, lot[place]))

    def test_truths_are_no_places(self):
        for thing in [(True,), (False,), (0, True), (False, 1), (False, True), (True, 2), (0, True, 2)]:
            self.told(False, is_lot, thing)

    def test_things_of_other_kinds(self):
        for thing in NO_LOTS:
            self.told(False, is_lot, thing)


class Bare(Told, unittest.TestCase):

    def test_some_by_hand(self):
        self.told(True, is_bare, 2, ())
        self.told(True, is_bare, 2, (7,))
        self.told(False, is_bare, 2, (0, 39))
        self.told((0, 39), first_full, 2, (0, 39))
        self.told(True, is_bare, 3, (0, 1, 3, 4))
        self.told(None, first_full, 3, (0, 1, 3, 4))
        self.told((1, 2), first_full, 3, (0, 1, 3, 5))
        self.told((31, 1), first_full, 8, tuple(range(31, 40))[:8])
        self.told(None, first_full, 8, tuple(range(33, 40)))
        # The first one by its first place, whatever the steps.
        self.told((0, 11), first_full, 3, (0, 4, 5, 6, 11, 22))
        self.told((0, 2), first_full, 3, (0, 2, 4, 5, 10))

    def test_against_all_rows(self):
        seen = set()
        for size in range(2, 9):
            for lot in some_lots():
                rows = full_rows(size, lot)
                self.told(not rows, is_bare, size, lot)
                self.told(min(rows) if rows else None, first_full, size, lot)
                seen.add((size, bool(rows)))
        self.assertEqual(len(seen), 14)

    def test_all_lots_below_9(self):
        for size in (2, 3, 4):
            for many in range(9):
                for lot in itertools.combinations(range(9), many):
                    rows = full_rows(size, lot)
                    self.assertEqual(first_full(size, lot), min(rows, default=None))
                    self.assertIs(is_bare(size, lot), not rows)

    def test_refused(self):
        for call in (is_bare, first_full):
            for size in wrong_numbers(2, 8):
                for lot in [(), (0, 1, 2), (1, 0), None]:
                    self.refused(NoNumber, call, size, lot)
            for thing in NO_LOTS:
                self.refused(NoLot, call, 3, thing)


class Hits(Told, unittest.TestCase):

    def test_some_by_hand(self):
        self.told(True, hits, 3, 0, ())
        self.told(True, hits, 3, 2, ())
        self.told(False, hits, 3, 3, ())
        self.told(True, hits, 3, 3, (1,))
        self.told(True, hits, 2, 1, ())
        self.told(False, hits, 2, 2, ())
        self.told(True, hits, 3, 5, (2,))
        self.told(False, hits, 3, 5, (1, 3))
        # Places beyond the length are let, and hit nothing there.
        self.told(False, hits, 3, 3, (3, 4, 39))
        self.told(True, hits, 3, 3, (0, 39))

    def test_against_all_rows(self):
        seen = set()
        for size in range(2, 9):
            for length in [0, 1, 2, 3, 5, 8, 13, 20, 39, 40]:
                for lot in some_lots(many=24):
                    wanted = hits_by_all_rows(size, length, lot)
                    self.told(wanted, hits, size, length, lot)
                    seen.add((size, wanted))
        self.assertEqual(len(seen), 14)

    def test_every_length(self):
        for size in (2, 3, 8):
            for length in range(41):
                for lot in [(), tuple(range(40)), tuple(range(1, 40, 2)), tuple(range(2, 40, 3)), (20,)]:
                    self.told(hits_by_all_rows(size, length, lot), hits, size, length, lot)

    def test_it_hits_just_where_the_others_are_bare(self):
        for size in range(2, 9):
            for length in [0, 1, 4, 9, 17, 30, 40]:
                for lot in some_lots(many=20, seed=65):
                    others = tuple(place for place in range(length) if place not in lot)
                    self.assertIs(hits(size, length, lot), is_bare(size, others))

    def test_refused_from_left_to_right(self):
        for size in wrong_numbers(2, 8):
            for length, lot in [(0, ()), (41, ()), (None, None), (3, (1, 0))]:
                self.refused(NoNumber, hits, size, length, lot)
        for length in wrong_numbers(0, 40):
            for lot in [(), (0, 1), (1, 0), None]:
                self.refused(NoNumber, hits, 3, length, lot)
        for thing in NO_LOTS:
            self.refused(NoLot, hits, 3, 40, thing)
            self.refused(NoLot, hits, 2, 0, thing)


if __name__ == "__main__":
    unittest.main()
