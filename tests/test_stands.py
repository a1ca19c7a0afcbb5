"""Point [81]: stands, and what may be done at them."""

import functools
import itertools
import random
import unittest

from evenhues.errors import NoNumber, NoPlace, NoStand
from evenhues.stands import hand_on, is_stand, may_take, taken, won_by

from tests.helping import BIG, NO_WHOLES, NUMBERS, STRANGE, Told, places, put, rows_gone_through, wrong_numbers

SIZES = range(2, 9)
OF_STAND = (hand_on, won_by, may_take)
NO_MARKS = STRANGE + NUMBERS + [
    (), (0,) * 9, (0,) * 1000, (3,), (-1,), (0, 3), (0, -1, 0), (BIG,), (0, True), (True, 0), (False, 0), (0, None),
    (0, "1"), (0, (1,)), [0], [0, 0, 0], [1, 2, 0], {0: 0}, "0", "012", (1, 2, 0, 0, 0, 0, 0, 0, 0),
    (True, 2), (1, 2, False),
]
# Their numbers are those of stands, but not by turns.
NO_TURNS = [(2,), (1, 1), (2, 0), (2, 2), (0, 2, 0), (1, 1, 0), (1, 1, 0, 1, 2), (2, 2, 1, 0), (1, 1, 2, 1, 1, 0, 0, 0)]


@functools.lru_cache(maxsize=None)
def row_of(size, marks, hand):
    """Whether the hand has an even row of the size."""
    return any(all(marks[place] == hand for place in places(row, size)) for row in rows_gone_through(len(marks), size))


def stand_by_the_words(size, marks):
    ones, twos = marks.count(1), marks.count(2)
    if not (1 <= len(marks) <= 8 and ones - twos in (0, 1)):
        return False
    if row_of(size, marks, 1) and row_of(size, marks, 2):
        return False
    if row_of(size, marks, 1) and ones != twos + 1:
        return False
    return not (row_of(size, marks, 2) and ones != twos)


def marks_of(length):
    return itertools.product((0, 1, 2), repeat=length)


def stands_of(size, length):
    """All stands of the size with so many places."""
    return [marks for marks in marks_of(length) if stand_by_the_words(size, marks)]


def some_marks(length, many, seed):
    """Marks of so many places that come by taking at random, and some that can't."""
    chance = random.Random(seed)
    told = []
    for at in range(many):
        if at % 4 == 3:
            told.append(tuple(chance.choice((0, 1, 2)) for _ in range(length)))
        else:
            marks = (0,) * length
            for turn, place in enumerate(chance.sample(range(length), chance.randint(0, length))):
                marks = put(marks, place, 1 + turn % 2)
            told.append(marks)
    return told


@functools.lru_cache(maxsize=None)
def some_stands(size):
    """All stands of up to six places, and some of seven and eight, with nothing taken too."""
    told = [stand for length in range(1, 7) for stand in stands_of(size, length)]
    told += [(0,) * 7, (0,) * 8]
    for length in (7, 8):
        told += [marks for marks in some_marks(length, 60, 81) if stand_by_the_words(size, marks)]
    return told


def won(size, stand):
    for hand in (1, 2):
        if row_of(size, stand, hand):
            return hand
    return None


def over(size, stand):
    return 0 not in stand or won(size, stand) is not None


@functools.lru_cache(maxsize=None)
def free(size, stand):
    return () if over(size, stand) else tuple(place for place, mark in enumerate(stand) if mark == 0)


def hand_of(stand):
    return 1 if stand.count(1) == stand.count(2) else 2


class IsStand(Told, unittest.TestCase):

    def test_all_of_up_to_six_places(self):
        seen = set()
        for size in SIZES:
            for length in range(1, 7):
                for marks in marks_of(length):
                    wanted = stand_by_the_words(size, marks)
                    self.assertIs(is_stand(size, marks), wanted)
                    seen.add((wanted, row_of(size, marks, 1), row_of(size, marks, 2)))
        wanted = {(False, one, two) for one in (True, False) for two in (True, False)}
        self.assertEqual(seen, wanted | {(True, False, False), (True, True, False), (True, False, True)})

    def test_some_of_seven_and_eight_places(self):
        for size in SIZES:
            for length in (7, 8):
                for marks in some_marks(length, 100, size):
                    self.told(stand_by_the_words(size, marks), is_stand, size, marks)

    def test_some_by_hand(self):
        self.told(True, is_stand, 3, (0,))
        self.told(True, is_stand, 3, (0,) * 8)
        self.told(True, is_stand, 3, (1, 1, 1, 2, 2))
        self.told(False, is_stand, 3, (1, 1, 1, 2, 2, 0, 2))
        self.told(True, is_stand, 4, (1, 1, 1, 2, 2, 0, 2))
        self.told(True, is_stand, 3, (1, 1, 2, 2, 2, 1))
        self.told(False, is_stand, 3, (1, 1, 2, 2, 2, 1, 0, 1))
        self.told(False, is_stand, 3, (1, 1, 1, 2, 2, 2))
        self.told(False, is_stand, 2, (1, 1, 2, 2))
        # Two rows at once: which place was taken last is all one.
        self.told(True, is_stand, 3, (1, 1, 1, 1, 2, 2, 0, 2))
        self.told(True, is_stand, 8, (1, 2, 1, 2, 1, 2, 1, 2))

    def test_other_things(self):
        for size in SIZES:
            for thing in NO_MARKS + NO_TURNS:
                self.told(False, is_stand, size, thing)

    def test_a_wrong_one_at_any_place(self):
        stand = (1, 2, 0, 1, 2, 0, 0, 0)
        self.told(True, is_stand, 4, stand)
        for place in range(8):
            for wrong in [-1, 3, 4, True, False, None, "0", "", (), [0], {}, BIG]:
                self.told(False, is_stand, 4, put(stand, place, wrong))

    def test_no_size(self):
        for size in wrong_numbers(2, 8):
            for thing in [(0,), (1, 2, 0), (), None, (2,), [0]]:
                self.refused(NoNumber, is_stand, size, thing)


class AtStands(Told, unittest.TestCase):

    def test_all_stands(self):
        seen = set()
        for size in SIZES:
            for stand in some_stands(size):
                self.told(None if over(size, stand) else hand_of(stand), hand_on, size, stand)
                self.told(won(size, stand), won_by, size, stand)
                self.told(free(size, stand), may_take, size, stand)
                for place in range(-1, len(stand) + 1):
                    if place in free(size, stand):
                        behind = put(stand, place, hand_of(stand))
                        self.assertEqual(taken(size, stand, place), behind)
                        self.assertTrue(is_stand(size, behind))
                    else:
                        self.refused(NoPlace, taken, size, stand, place)
                seen.add((won(size, stand), 0 in stand, size))
        for size in SIZES:
            self.assertIn((None, False, size), seen)
            self.assertIn((None, True, size), seen)
        for what in [(1, True, 3), (1, False, 3), (2, True, 3), (2, False, 3)]:
            self.assertIn(what, seen)

    def test_some_by_hand(self):
        self.told(1, hand_on, 3, (0, 0, 0))
        self.told(2, hand_on, 3, (0, 1, 0))
        self.told(None, hand_on, 3, (1, 2, 1))
        self.told(None, won_by, 3, (1, 2, 1))
        self.told((), may_take, 3, (1, 2, 1))
        self.told(None, hand_on, 2, (1, 2, 1, 0))
        self.told(1, won_by, 2, (1, 2, 1, 0))
        self.told((), may_take, 2, (1, 2, 1, 0))
        self.told(2, won_by, 3, (1, 1, 2, 2, 2, 1, 0))
        self.told(None, hand_on, 3, (1, 1, 2, 2, 2, 1, 0))
        self.told((0, 2, 3), may_take, 3, (0, 1, 0, 0))
        self.told((0, 1, 0, 2), taken, 3, (0, 1, 0, 0), 3)
        self.told((1, 1, 0, 2), taken, 3, (0, 1, 0, 2), 0)

    def test_no_place(self):
        for place in [-1, BIG, -BIG, 8] + NO_WHOLES:
            self.refused(NoPlace, taken, 3, (0,) * 8, place)
            self.refused(NoPlace, taken, 8, (0,), place)
        # Nor any where the play is over, by a row or with no place left.
        for place in list(range(-1, 9)) + NO_WHOLES:
            self.refused(NoPlace, taken, 3, (1, 1, 1, 2, 2, 0, 0, 0), place)
            self.refused(NoPlace, taken, 3, (1, 1, 2, 2, 2, 1, 0, 0), place)
            self.refused(NoPlace, taken, 8, (1, 2, 1, 2, 1, 2, 1, 2), place)

    def test_no_stand(self):
        for size in SIZES:
            for thing in NO_MARKS + NO_TURNS:
                for call in OF_STAND:
                    self.refused(NoStand, call, size, thing)
                for place in [0, -1, None, True]:
                    self.refused(NoStand, taken, size, thing, place)

    def test_no_size_ahead_of_all(self):
        for size in wrong_numbers(2, 8):
            for thing in [(0,), (1, 2, 0), (), None, (2,), [0]]:
                for call in OF_STAND:
                    self.refused(NoNumber, call, size, thing)
                for place in [0, -1, None]:
                    self.refused(NoNumber, taken, size, thing, place)


if __name__ == "__main__":
    unittest.main()
