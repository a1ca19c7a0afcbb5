"""Early lots: each place is taken with which the lot so far stays bare."""

from evenhues.checks import MOST_PLACES, MOST_SIZE, is_whole, need_length, need_whole
from evenhues.errors import NoNumber, NoPlace

LEAST_EARLY_SIZE = 3
FIGURE_SIZES = (3, 5, 7)


def need_early_size(thing):
    """Refuse what is no size that early lots are told of."""
    need_whole(thing, LEAST_EARLY_SIZE, MOST_SIZE)


def need_figure_size(thing):
    """Refuse what is no size that figures are told of."""
    if thing not in FIGURE_SIZES:
        raise NoNumber("a size of 3, 5 or 7 is due")


def need_lot_place(thing):
    """Refuse what can't be a place of a lot."""
    if not is_whole(thing, 0, MOST_PLACES - 1):
        raise NoPlace("a place from 0 to 39 is due")


def ends_row(size, lot, place):
    """Tell whether a row of the size ends at the place and has all its other places in the lot."""
    for step in range(1, place // (size - 1) + 1):
        if all([place - step * at in lot for at in range(1, size)]):
            return True
    return False


def early(size, length):
    """Tell the early lot of the size, of places below the length."""
    need_early_size(size)
    need_length(length)
    lot = ()
    for place in range(length):
        # All places so far are below this one, so that a row with it ends here.
        if not ends_row(size, lot, place):
            lot += (place,)
    return lot


def is_early(size, place):
    """Tell whether the place is in an early lot of the size that goes so far."""
    need_early_size(size)
    need_lot_place(place)
    return place in early(size, place + 1)


def figures(size, place):
    """Tell the figures of the place to the base of the size, the last one first."""
    need_figure_size(size)
    need_lot_place(place)
    told = (place % size,)
    rest = place // size
    while rest > 0:
        told += (rest % size,)
        rest = rest // size
    return told
