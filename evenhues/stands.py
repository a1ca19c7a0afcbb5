"""Stands: which hand has which place, in the play of two hands that take places by turns."""

from evenhues.checks import are_wholes, is_whole, need_size
from evenhues.errors import NoPlace, NoStand
from evenhues.rows import rows_in
from evenhues.wholes import is_one_hue

FREE = 0
HANDS = (1, 2)
MOST_STAND_PLACES = 8


def other_hand(hand):
    """Tell the hand that is not this one."""
    return HANDS[0] + HANDS[1] - hand


def has_row(size, stand, hand):
    """Tell whether the hand has all places of an even row of the size."""
    rows = rows_in(len(stand), size)
    return any([stand[first] == hand and is_one_hue(stand, first, step, size) for first, step in rows])


def hand_due(stand):
    """Tell the hand whose turn it is where the play goes on."""
    return HANDS[0] if stand.count(HANDS[0]) == stand.count(HANDS[1]) else HANDS[1]


def is_marked(thing):
    """Tell of anything whether it has one to eight places, each free or a hand's."""
    return isinstance(thing, tuple) and 1 <= len(thing) <= MOST_STAND_PLACES and are_wholes(thing, FREE, HANDS[1])


def is_in_turn(size, stand):
    """Tell whether the hands took by turns, and who has a row took last."""
    more = stand.count(HANDS[0]) - stand.count(HANDS[1])
    return 0 <= more <= 1 and not has_row(size, stand, hand_due(stand))


def is_stand(size, thing):
    """Tell of anything whether it is a stand of the size."""
    need_size(size)
    return is_marked(thing) and is_in_turn(size, thing)


def need_stand(size, thing):
    """Refuse what is no size, then what is no stand of it."""
    if not is_stand(size, thing):
        raise NoStand("a stand of the size is due")


def winner(size, stand):
    """Tell the hand that has won at what surely is a stand, None where none has."""
    # Only who took last can have a row at a stand.
    last = other_hand(hand_due(stand))
    return last if has_row(size, stand, last) else None


def free_places(size, stand):
    """Tell the places that may be taken at what surely is a stand, rising."""
    if winner(size, stand) is not None:
        return ()
    return tuple([place for place, mark in enumerate(stand) if mark == FREE])


def behind_taking(stand, place):
    """Tell the stand behind the taking of a place that surely may be taken."""
    return stand[:place] + (hand_due(stand),) + stand[place + 1:]


def hand_on(size, stand):
    """Tell the hand that is to take, None where the play is over."""
    need_stand(size, stand)
    return hand_due(stand) if free_places(size, stand) else None


def won_by(size, stand):
    """Tell the hand that has won, None where none has."""
    need_stand(size, stand)
    return winner(size, stand)


def may_take(size, stand):
    """Tell the tuple of the places that may be taken, rising."""
    need_stand(size, stand)
    return free_places(size, stand)


def taken(size, stand, place):
    """Tell the stand behind the taking of the place."""
    need_stand(size, stand)
    # The number is looked at first: a truth would pass for the place 0 or 1.
    if not is_whole(place, 0, len(stand) - 1) or place not in free_places(size, stand):
        raise NoPlace("a place that may be taken is due")
    return behind_taking(stand, place)
