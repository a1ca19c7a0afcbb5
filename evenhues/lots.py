"""Lots: rising places, and the even rows that they hold or hit."""

from evenhues.checks import MOST_PLACES, are_wholes, need_length, need_size
from evenhues.errors import NoLot
from evenhues.rows import places_of, rows_in


def is_rising(numbers):
    """Tell whether each of the numbers is greater than the one ahead."""
    return all([one < other for one, other in zip(numbers, numbers[1:])])


def is_lot(thing):
    """Tell of anything whether it is a lot."""
    return isinstance(thing, tuple) and are_wholes(thing, 0, MOST_PLACES - 1) and is_rising(thing)


def need_lot(thing):
    """Refuse what is no lot."""
    if not is_lot(thing):
        raise NoLot("a lot is due")


def first_full(size, lot):
    """Tell the first row of the size all of whose places are in the lot, None where there is none."""
    need_size(size)
    need_lot(lot)
    for first, step in rows_in(MOST_PLACES, size):
        if all([place in lot for place in places_of(first, step, size)]):
            return (first, step)
    return None


def is_bare(size, lot):
    """Tell whether no row of the size has all its places in the lot."""
    return first_full(size, lot) is None


def hits(size, length, lot):
    """Tell whether each row of the size that lies in the length has a place that is in the lot."""
    need_size(size)
    need_length(length)
    need_lot(lot)
    for first, step in rows_in(length, size):
        if not any([place in lot for place in places_of(first, step, size)]):
            return False
    return True
