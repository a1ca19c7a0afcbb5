"""The greatest bare lots below a length, and the smallest lots that hit it."""

from evenhues.checks import need_length, need_size
from evenhues.early import ends_row
from evenhues.errors import TooGreat

MOST_LENGTH = 12


def need_short_length(thing):
    """Refuse what is no length, then one that has too many lots below it."""
    need_length(thing)
    if thing > MOST_LENGTH:
        raise TooGreat(thing, MOST_LENGTH)


def bare_lots(size, length):
    """Tell the list of all bare lots of places below the length."""
    need_size(size)
    need_short_length(length)
    lots = [()]
    for place in range(length):
        # What is left of a bare lot without its last place is bare, so that none is missed.
        lots = lots + [lot + (place,) for lot in lots if not ends_row(size, lot, place)]
    return lots


def bare_many(size, length):
    """Tell how many bare lots of places below the length there are."""
    return len(bare_lots(size, length))


def all_most(size, length):
    """Tell the list of the bare lots below the length with the most places, rising."""
    lots = bare_lots(size, length)
    many = max([len(lot) for lot in lots])
    return sorted([lot for lot in lots if len(lot) == many])


def first_most(size, length):
    """Tell the first of the bare lots below the length with the most places."""
    return all_most(size, length)[0]


def most(size, length):
    """Tell how many places a bare lot below the length has at the most."""
    return len(first_most(size, length))


def places_left(length, lot):
    """Tell the lot of the places below the length that are not in the lot."""
    return tuple([place for place in range(length) if place not in lot])


def first_hit(size, length):
    """Tell the first of the lots with the fewest places that hit the length."""
    # A lot hits just where the places that it leaves are bare, so that the fewest hit where the most are left.
    return min([places_left(length, lot) for lot in all_most(size, length)])


def fewest_hits(size, length):
    """Tell how many places a lot has at the least that hits the length."""
    return len(first_hit(size, length))
