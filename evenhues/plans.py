"""Plans: where a hand takes at each stand that can come, so that it wins, or the other one never does."""

from evenhues.checks import is_whole, need_whole
from evenhues.play import best_places, worth_of
from evenhues.stands import HANDS, behind_taking, free_places, hand_due, need_stand, other_hand, winner


def need_hand(thing):
    """Refuse what is no hand."""
    need_whole(thing, HANDS[0], HANDS[1])


def stand_key(stand):
    """Tell the stand as it is written in a plan."""
    return "".join([str(mark) for mark in stand])


def places_by(size, stand, hand, plan):
    """Tell the places that can be taken where the hand takes by the plan, () where that has none for the stand."""
    places = free_places(size, stand)
    if hand_due(stand) != hand:
        return places
    place = plan.get(stand_key(stand))
    # The number is looked at first: a truth would pass for the place 0 or 1.
    return (place,) if is_whole(place, 0, len(stand) - 1) and place in places else ()


def level_behind(size, level, hand, plan):
    """Tell the stands that can come one taking behind these, where the hand takes by the plan, each once."""
    return sorted({behind_taking(now, place) for now in level for place in places_by(size, now, hand, plan)})


def stands_by(size, stand, hand, plan):
    """Tell all stands that can come from the stand on, that one too, where the hand takes by the plan."""
    told = []
    level = [stand]
    while level:
        told = told + level
        level = level_behind(size, level, hand, plan)
    return told


def own_stands(size, stands, hand):
    """Tell those of the stands at which the hand is to take."""
    return [now for now in stands if hand_due(now) == hand and free_places(size, now)]


def winners_by(size, stand, hand, thing):
    """Tell who has won wherever the play can be over by the plan; None where the thing is no plan."""
    need_stand(size, stand)
    need_hand(hand)
    if not isinstance(thing, dict):
        return None
    stands = stands_by(size, stand, hand, thing)
    own = own_stands(size, stands, hand)
    # Where each of these stands has its key, as many keys as stands are no key too many.
    if len(own) != len(thing) or any([places_by(size, now, hand, thing) == () for now in own]):
        return None
    return [winner(size, now) for now in stands if not free_places(size, now)]


def wins_by(size, stand, hand, thing):
    """Tell of anything whether it is a plan by which the hand wins."""
    winners = winners_by(size, stand, hand, thing)
    return winners is not None and all([won == hand for won in winners])


def holds_by(size, stand, hand, thing):
    """Tell of anything whether it is a plan by which the other hand never wins."""
    winners = winners_by(size, stand, hand, thing)
    return winners is not None and other_hand(hand) not in winners


def best_plan(size, stand, hand, known):
    """Tell the plan by which the hand takes the first of the best places each time; known is as in worth_of."""
    plan = {}
    level = [stand]
    while level:
        for now in own_stands(size, level, hand):
            plan[stand_key(now)] = best_places(size, now, known)[0]
        level = level_behind(size, level, hand, plan)
    return plan


def win_plan(size, stand, hand):
    """Tell some plan by which the hand wins, None where there is none."""
    need_stand(size, stand)
    need_hand(hand)
    known = {}
    return best_plan(size, stand, hand, known) if worth_of(size, stand, False, known) == hand else None


def hold_plan(size, stand, hand):
    """Tell some plan by which the other hand never wins, None where there is none."""
    need_stand(size, stand)
    need_hand(hand)
    known = {}
    return best_plan(size, stand, hand, known) if worth_of(size, stand, False, known) != other_hand(hand) else None
