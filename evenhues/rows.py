"""Even rows: evenly spaced places, as many as a size, as tuples (first, step)."""

from evenhues.checks import is_whole, need_first, need_length, need_size, need_step
from evenhues.errors import NoPlace


def places_of(first, step, size):
    """Tell the places of the row, a tuple."""
    need_first(first)
    need_step(step)
    need_size(size)
    return tuple([first + step * at for at in range(size)])


def most_step(length, first, size):
    """Tell the greatest step of a row from first on that lies in the length, less than 1 where none does."""
    return (length - 1 - first) // (size - 1)


def rows_in(length, size):
    """Tell the list of all rows of the size that lie in the length, rising."""
    need_length(length)
    need_size(size)
    return [(first, step) for first in range(length) for step in range(1, most_step(length, first, size) + 1)]


def rows_many(length, size):
    """Tell how many rows of the size lie in the length."""
    need_length(length)
    need_size(size)
    # A row whose last place is span beyond its first one may begin at each of length - span places.
    return sum([length - span for span in range(size - 1, length, size - 1)])


def rows_at(length, size, place):
    """Tell the list of the rows of the size in the length that have the place, rising."""
    need_length(length)
    need_size(size)
    if not is_whole(place, 0, length - 1):
        raise NoPlace("a place below the length is due")
    # Found from the place on, not among all rows: drafts ask this very often.
    rows = [(place - step * at, step) for at in range(size) for step in range(1, most_step(length, 0, size) + 1)]
    return sorted([(first, step) for first, step in rows if first >= 0 and first + step * (size - 1) < length])
