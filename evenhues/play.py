"""The play of two hands: the worth of a stand, the best places to take, and the contrary play."""

from evenhues.stands import behind_taking, free_places, hand_due, need_stand, other_hand, winner

NEITHER = 0


def worth_of(size, stand, contrary, known):
    """Tell the worth of what surely is a stand, in the contrary play or else in the plain one.

    In known stand the worths of the same play that were found so far, so that each stand is reckoned once.
    """
    if stand not in known:
        known[stand] = found_worth(size, stand, contrary, known)
    return known[stand]


def found_worth(size, stand, contrary, known):
    """Tell the worth of a stand that is not known yet."""
    won = winner(size, stand)
    if won is not None:
        return other_hand(won) if contrary else won
    behind = [behind_taking(stand, place) for place in free_places(size, stand)]
    if not behind:
        return NEITHER
    return wished_worth(hand_due(stand), [worth_of(size, now, contrary, known) for now in behind])


def wished_worth(hand, worths):
    """Tell which of the worths the hand takes: its own, else neither's, else the other hand's."""
    if hand in worths:
        return hand
    return NEITHER if NEITHER in worths else other_hand(hand)


def best_places(size, stand, known):
    """Tell the places that may be taken and leave the worth of what surely is a stand, rising."""
    kept = worth_of(size, stand, False, known)
    places = free_places(size, stand)
    return tuple([place for place in places if worth_of(size, behind_taking(stand, place), False, known) == kept])


def worth(size, stand):
    """Tell the hand that can win whatever the other one does, 0 where neither can."""
    need_stand(size, stand)
    return worth_of(size, stand, False, {})


def best(size, stand):
    """Tell the tuple of the places that may be taken and leave the worth as it is, rising."""
    need_stand(size, stand)
    return best_places(size, stand, {})


def line(size, stand):
    """Tell the tuple of the places taken where each time the least of the best is taken."""
    need_stand(size, stand)
    known = {}
    now = stand
    told = ()
    places = best_places(size, now, known)
    while places:
        told += (places[0],)
        now = behind_taking(now, places[0])
        places = best_places(size, now, known)
    return told


def contrary_worth(size, stand):
    """Tell the worth in the play in which who has a row first has lost."""
    need_stand(size, stand)
    return worth_of(size, stand, True, {})
