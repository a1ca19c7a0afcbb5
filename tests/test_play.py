"""Points [82] and [84], and [85] as far as it speaks of worths: the play of two hands."""

import functools
import unittest

from evenhues.errors import NoNumber, NoStand
from evenhues.play import best, contrary_worth, line, worth
from evenhues.stands import is_stand, taken, won_by

from tests.helping import Told, put, same_kind, wrong_numbers
from tests.test_stands import NO_MARKS, NO_TURNS, SIZES, free, hand_of, over, some_stands, stands_of, won

ALL = (worth, best, line, contrary_worth)


def behind(size, stand):
    return [put(stand, place, hand_of(stand)) for place in free(size, stand)]


@functools.lru_cache(maxsize=None)
def can_win(size, stand, hand, contrary):
    """Whether the hand can win from the stand whatever the other one does, by all plays gone through."""
    if over(size, stand):
        if won(size, stand) is None:
            return False
        return (won(size, stand) == hand) != contrary
    ways = [can_win(size, other, hand, contrary) for other in behind(size, stand)]
    return any(ways) if hand_of(stand) == hand else all(ways)


def worth_gone_through(size, stand, contrary=False):
    winners = [hand for hand in (1, 2) if can_win(size, stand, hand, contrary)]
    assert len(winners) < 2
    return winners[0] if winners else 0


def best_gone_through(size, stand):
    own = worth_gone_through(size, stand)
    return tuple(
        place for place in free(size, stand) if worth_gone_through(size, put(stand, place, hand_of(stand))) == own
    )


def line_gone_through(size, stand):
    told = ()
    while not over(size, stand):
        place = min(best_gone_through(size, stand))
        stand = put(stand, place, hand_of(stand))
        told += (place,)
    return told


class Play(Told, unittest.TestCase):

    def all_four(self, size, stand):
        for wanted, call in self.wanted(size, stand):
            self.told(wanted, call, size, stand)

    def wanted(self, size, stand):
        return [
            (worth_gone_through(size, stand), worth), (best_gone_through(size, stand), best),
            (line_gone_through(size, stand), line), (worth_gone_through(size, stand, True), contrary_worth),
        ]

    def test_all_plays_gone_through(self):
        seen = set()
        for size in SIZES:
            for at, stand in enumerate(some_stands(size)):
                if at % 5 == 0:
                    self.all_four(size, stand)
                for wanted, call in self.wanted(size, stand):
                    self.assertTrue(same_kind(call(size, stand), wanted), (call.__name__, size, stand))
                seen.add((over(size, stand), worth_gone_through(size, stand)))
                seen.add((over(size, stand), worth_gone_through(size, stand, True), "contrary"))
        self.assertEqual(len(seen), 12)

    def test_eight_free_places(self):
        for size in SIZES:
            self.all_four(size, (0,) * 8)
            self.all_four(size, (0,) * 7)

    def test_some_by_hand(self):
        self.told(1, worth, 2, (0, 0, 0))
        self.told((0, 1, 2), best, 2, (0, 0, 0))
        self.told((0, 1, 2), line, 2, (0, 0, 0))
        self.told(0, worth, 3, (0, 0, 0))
        self.told((0, 1, 2), line, 3, (0, 0, 0))
        # Hand 1 takes the middle, and then has two ways at once to a row.
        self.told(1, worth, 3, (0,) * 5)
        # Hand 1 is at one from a row and takes it.
        self.told(1, worth, 3, (1, 1, 0, 2, 2))
        self.told((2,), best, 3, (1, 1, 0, 2, 2))
        self.told((2,), line, 3, (1, 1, 0, 2, 2))
        # Nothing else is left: it has to take it, and so loses the contrary play.
        self.told(2, contrary_worth, 3, (1, 1, 0, 2, 2))
        self.told(0, contrary_worth, 3, (0, 0))
        self.told(2, contrary_worth, 2, (0, 0, 0))

    def test_where_the_play_is_over(self):
        for size, stand, hand in [
            (3, (1, 1, 1, 2, 2), 1), (3, (1, 1, 1, 2, 2, 0, 0, 0), 1), (3, (1, 1, 2, 2, 2, 1), 2),
            (3, (1, 1, 2, 2, 2, 1, 0), 2), (2, (1, 2, 1, 0), 1), (3, (1, 2, 1), 0), (8, (1, 2, 1, 2, 1, 2, 1, 2), 0),
        ]:
            self.told(hand, worth, size, stand)
            self.told((), best, size, stand)
            self.told((), line, size, stand)
            self.told(3 - hand if hand else 0, contrary_worth, size, stand)

    def test_the_line_ends_with_the_play(self):
        for size in SIZES:
            for stand in some_stands(size)[::2]:
                now = stand
                for place in line(size, stand):
                    self.assertFalse(over(size, now))
                    now = taken(size, now, place)
                self.assertTrue(over(size, now))
                self.assertEqual(won_by(size, now) or 0, worth(size, stand))


class WhatThereforeHolds(unittest.TestCase):

    def test_where_nothing_is_taken_the_worth_is_not_2(self):
        for size in SIZES:
            for length in range(1, 9):
                self.assertIn(worth(size, (0,) * length), (0, 1))

    def test_from_last_to_first(self):
        for size in SIZES:
            for stand in some_stands(size)[::4]:
                self.assertTrue(is_stand(size, stand[::-1]))
                self.assertEqual(worth(size, stand[::-1]), worth(size, stand))
                self.assertEqual(contrary_worth(size, stand[::-1]), contrary_worth(size, stand))

    def test_a_worth_is_kept_by_some_place_and_bettered_by_none(self):
        for size in (2, 3, 4):
            for stand in stands_of(size, 6):
                if not over(size, stand):
                    self.assertNotEqual(best(size, stand), ())
                    worths = [worth(size, other) for other in behind(size, stand)]
                    if worth(size, stand) != hand_of(stand):
                        self.assertNotIn(hand_of(stand), worths)


class Refused(Told, unittest.TestCase):

    def test_no_size_ahead_of_no_stand(self):
        for call in ALL:
            for size in wrong_numbers(2, 8):
                for thing in [(0,), (1, 2, 0), (), None, (2,), [0]]:
                    self.refused(NoNumber, call, size, thing)

    def test_no_stand(self):
        for call in ALL:
            for size in SIZES:
                for thing in NO_MARKS + NO_TURNS:
                    self.refused(NoStand, call, size, thing)
            # A stand of one size may be none of another one.
            self.refused(NoStand, call, 2, (1, 1, 2, 2, 0))
            self.refused(NoStand, call, 3, (1, 1, 1, 2, 2, 2))


if __name__ == "__main__":
    unittest.main()
