"""Point [83], and [85] as far as it speaks of plans."""

import copy
import random
import unittest

from evenhues.errors import NoNumber, NoStand
from evenhues.plans import hold_plan, holds_by, win_plan, wins_by
from evenhues.play import worth

from tests.helping import BIG, DEEP, NUMBERS, STRANGE, Told, put, wrong_numbers
from tests.test_play import worth_gone_through
from tests.test_stands import NO_MARKS, NO_TURNS, SIZES, free, hand_of, over, some_stands, won

OF_THING = (wins_by, holds_by)
OF_HAND = (win_plan, hold_plan)
NO_DICTS = [thing for thing in STRANGE if not isinstance(thing, dict)] + NUMBERS + [(), (0, 1), [("0", 0)], "0"]


def written(stand):
    return "".join(str(mark) for mark in stand)


def by_the_words(size, stand, hand, thing):
    """Who can have won in the end by the plan, a set; None where the thing is no plan."""
    if type(thing) is not dict:
        return None
    used, winners = set(), set()

    def goes(now):
        if over(size, now):
            winners.add(won(size, now))
            return True
        if hand_of(now) != hand:
            return all([goes(put(now, place, hand_of(now))) for place in free(size, now)])
        used.add(written(now))
        place = thing.get(written(now))
        return type(place) is int and place in free(size, now) and goes(put(now, place, hand))

    return winners if goes(stand) and set(thing) == used else None


def wins(size, stand, hand, thing):
    return by_the_words(size, stand, hand, thing) == {hand}


def holds(size, stand, hand, thing):
    winners = by_the_words(size, stand, hand, thing)
    return winners is not None and 3 - hand not in winners


def plan_by(size, stand, hand, choose):
    """The plan of the hand that takes what choose tells."""
    plan = {}
    waiting = [stand]
    while waiting:
        now = waiting.pop()
        if not over(size, now):
            places = free(size, now)
            if hand_of(now) == hand:
                if written(now) not in plan:
                    plan[written(now)] = choose(now, places)
                places = [plan[written(now)]]
            waiting += [put(now, place, hand_of(now)) for place in places]
    return plan


def choices(size, hand, seed):
    """Ways to choose a place: by worth, the last or any of the good ones; and without a look at it."""
    chance = random.Random(seed)

    def good(now, places):
        own = worth_gone_through(size, now)
        return [place for place in places if worth_gone_through(size, put(now, place, hand)) == own]

    return [
        lambda now, places: good(now, places)[-1],
        lambda now, places: chance.choice(good(now, places)),
        lambda now, places: chance.choice(places),
        lambda now, places: places[0],
        lambda now, places: places[-1],
    ]


def with_key(plan, key, value):
    told = dict(plan)
    told[key] = value
    return told


def without_key(plan, key):
    told = dict(plan)
    del told[key]
    return told


class Plans(Told, unittest.TestCase):

    def both(self, size, stand, hand, thing):
        is_win, is_hold = wins(size, stand, hand, thing), holds(size, stand, hand, thing)
        self.told(is_win, wins_by, size, stand, hand, thing)
        self.told(is_hold, holds_by, size, stand, hand, thing)
        return is_win, is_hold

    def stands(self, size, every):
        """Some of the stands, with few free places or at most six."""
        return [stand for stand in some_stands(size)[::every] if stand.count(0) <= 6]

    def test_plans_of_other_choices(self):
        seen = set()
        for size in SIZES:
            for stand in self.stands(size, 3):
                for hand in (1, 2):
                    for choose in choices(size, hand, size):
                        plan = plan_by(size, stand, hand, choose)
                        seen.add(self.both(size, stand, hand, plan))
                        self.assertIsNotNone(by_the_words(size, stand, hand, plan))
        self.assertEqual(seen, {(True, True), (False, True), (False, False)})

    def test_plans_of_the_other_hand(self):
        for size in (2, 3, 4):
            for stand in self.stands(size, 11):
                for hand in (1, 2):
                    for choose in choices(size, hand, size)[:3]:
                        self.both(size, stand, 3 - hand, plan_by(size, stand, hand, choose))

    def test_one_thing_otherwise(self):
        for size in (2, 3, 4, 8):
            for stand in self.stands(size, 37) + [(0, 0, 0, 0), (0, 1, 0, 0, 0), (0, 0, 0, 0, 0), (1, 2, 0, 0)]:
                for hand in (1, 2):
                    plan = plan_by(size, stand, hand, choices(size, hand, 1)[0])
                    self.otherwise(size, stand, hand, plan)

    def otherwise(self, size, stand, hand, plan):
        for key in list(plan)[:6]:
            self.no_plan(size, stand, hand, without_key(plan, key))
            own = tuple(int(sign) for sign in key)
            for wrong in [-1, len(stand), BIG, True, False, None, "0", "", (0,), [0], {}, key]:
                self.no_plan(size, stand, hand, with_key(plan, key, wrong))
            for place in range(len(stand)):
                if place not in free(size, own):
                    self.no_plan(size, stand, hand, with_key(plan, key, place))
                else:
                    self.both(size, stand, hand, with_key(plan, key, place))
            self.no_plan(size, stand, hand, with_key(without_key(plan, key), own, plan[key]))
            self.no_plan(size, stand, hand, with_key(without_key(plan, key), int(key), plan[key]))
            self.no_plan(size, stand, hand, with_key(without_key(plan, key), key + "0", plan[key]))
        for more in ["", "x", "0", "000000000", "2" * len(stand), "1" * len(stand), " " + written(stand), 0, 7, -1, BIG]:
            if more not in plan:
                self.no_plan(size, stand, hand, with_key(plan, more, 0))
        for place in free(size, stand):
            # What can't come, since the plan has another place, or the other hand is to take there.
            behind = written(put(stand, place, hand_of(stand)))
            if behind not in plan:
                self.no_plan(size, stand, hand, with_key(plan, behind, place))
        if written(stand) not in plan:
            self.no_plan(size, stand, hand, with_key(plan, written(stand), 0))

    def no_plan(self, size, stand, hand, thing):
        self.assertIsNone(by_the_words(size, stand, hand, thing))
        self.assertEqual(self.both(size, stand, hand, thing), (False, False))

    def test_the_empty_dict(self):
        for size in SIZES:
            for stand in some_stands(size)[::5]:
                for hand in (1, 2):
                    self.both(size, stand, hand, {})
        self.told(True, wins_by, 3, (1, 1, 1, 2, 2), 1, {})
        self.told(True, holds_by, 3, (1, 1, 1, 2, 2), 1, {})
        self.told(False, wins_by, 3, (1, 1, 1, 2, 2), 2, {})
        self.told(False, holds_by, 3, (1, 1, 1, 2, 2), 2, {})
        self.told(True, holds_by, 3, (1, 2, 1), 2, {})
        self.told(False, wins_by, 3, (1, 2, 1), 2, {})
        self.told(False, wins_by, 3, (1, 1, 1, 2, 2), 1, {"11122": 0})
        # The other hand takes the one place that is left, so that the plan has nothing to say.
        self.told(True, holds_by, 3, (1, 0), 1, {})
        self.told(False, holds_by, 3, (1, 0), 2, {})
        self.told(True, holds_by, 3, (1, 0), 2, {"10": 1})
        self.told(False, holds_by, 3, (0,), 1, {})

    def test_other_things_than_dicts(self):
        for thing in NO_DICTS:
            for hand in (1, 2):
                for stand in [(0, 0, 0), (1, 2, 1), (1, 1, 1, 2, 2), (0,) * 8]:
                    self.told(False, wins_by, 3, stand, hand, thing)
                    self.told(False, holds_by, 3, stand, hand, thing)

    def test_dicts_of_many_sorts(self):
        great = {f"{at}": at for at in range(999)}
        for thing in [{"a": (0, 1)}, {0: 0}, great, {"00": {}}, {"00": [0]}] + [deep for deep in DEEP if type(deep) is dict]:
            for hand in (1, 2):
                for stand in [(0, 0), (1, 0), (1, 2), (1, 1, 1, 2, 2), (0,) * 8]:
                    self.both(3, stand, hand, thing)
        self.told(False, wins_by, 2, (0, 0, 0), 1, {"000": 0, "120": 2})
        self.told(True, wins_by, 2, (0, 0, 0), 1, {"000": 0, "120": 2, "102": 1})

    def test_a_plan_just_where_the_worth_lets_it(self):
        seen = set()
        for size in SIZES:
            # Beyond the size 4 there is little to win, so that some of the stands will do.
            for stand in some_stands(size)[::1 if size < 5 else 6]:
                own = worth_gone_through(size, stand)
                self.assertEqual(own, worth(size, stand))
                for hand in (1, 2):
                    self.plans_told(size, stand, hand, own)
                    seen.add((hand, own, over(size, stand)))
        self.assertEqual(len(seen), 12)

    def plans_told(self, size, stand, hand, own):
        plan = win_plan(size, stand, hand)
        if own == hand:
            self.assertTrue(wins_by(size, stand, hand, plan))
            self.assertTrue(stand.count(0) > 6 or wins(size, stand, hand, plan))
        else:
            self.assertIsNone(plan)
        plan = hold_plan(size, stand, hand)
        if own != 3 - hand:
            self.assertTrue(holds_by(size, stand, hand, plan))
            self.assertTrue(stand.count(0) > 6 or holds(size, stand, hand, plan))
        else:
            self.assertIsNone(plan)

    def test_eight_free_places(self):
        for size in (3, 4, 8):
            for hand in (1, 2):
                plan = hold_plan(size, (0,) * 8, hand)
                if worth_gone_through(size, (0,) * 8) != 3 - hand:
                    self.assertTrue(holds(size, (0,) * 8, hand, plan))
                else:
                    self.assertIsNone(plan)
        self.assertTrue(wins(3, (0,) * 8, 1, win_plan(3, (0,) * 8, 1)))

    def test_told_dicts_are_new(self):
        for call in OF_HAND:
            for stand in [(0, 0, 0), (0,) * 6, (1, 2, 1, 0), (1, 0, 0)]:
                for hand in (1, 2):
                    plan = self.ask(call, 2, stand, hand) if stand != (1, 2, 1, 0) else self.ask(call, 3, stand, hand)
                    if plan is not None:
                        self.assertIs(type(plan), dict)
        plan = win_plan(2, (0, 0, 0), 1)
        kept = copy.deepcopy(plan)
        plan.clear()
        self.assertEqual(win_plan(2, (0, 0, 0), 1), kept)
        self.told({}, win_plan, 3, (1, 1, 1, 2, 2), 1)
        self.told(None, win_plan, 3, (1, 1, 1, 2, 2), 2)
        self.told({}, hold_plan, 3, (1, 2, 1), 2)

    def test_what_is_done_to_a_plan_later(self):
        plan = win_plan(2, (0, 0, 0), 1)
        self.assertTrue(wins_by(2, (0, 0, 0), 1, plan))
        plan["000"] = 9
        self.assertFalse(wins_by(2, (0, 0, 0), 1, plan))
        self.assertTrue(wins_by(2, (0, 0, 0), 1, win_plan(2, (0, 0, 0), 1)))


class Refused(Told, unittest.TestCase):

    def test_no_size_ahead_of_all(self):
        for size in wrong_numbers(2, 8):
            for stand, hand in [((0,), 1), ((), 0), (None, None), ((2,), 3)]:
                for call in OF_HAND:
                    self.refused(NoNumber, call, size, stand, hand)
                for call in OF_THING:
                    self.refused(NoNumber, call, size, stand, hand, {})

    def test_no_stand_ahead_of_the_hand(self):
        for stand in NO_MARKS + NO_TURNS:
            for hand in [1, 2, 0, 3, True, None]:
                for call in OF_HAND:
                    self.refused(NoStand, call, 3, stand, hand)
                for call in OF_THING:
                    self.refused(NoStand, call, 3, stand, hand, {})

    def test_no_hand(self):
        for hand in [0, 3, True, False, None] + wrong_numbers(1, 2):
            for stand in [(0,), (1, 2, 0), (1, 1, 1, 2, 2)]:
                for call in OF_HAND:
                    self.refused(NoNumber, call, 3, stand, hand)
                for call in OF_THING:
                    for thing in [{}, {"0": 0}, None, [], DEEP[2]]:
                        self.refused(NoNumber, call, 3, stand, hand, thing)


if __name__ == "__main__":
    unittest.main()
