"""Whole rows: even rows all of whose places have one hue."""

from evenhues.checks import need_size
from evenhues.rows import rows_in
from evenhues.strips import HUES, need_strip


def is_one_hue(hues, first, step, size):
    """Tell whether the row, which lies in the length of the hues, has one hue at all its places."""
    return hues[first:first + step * size:step].count(hues[first]) == size


def whole_rows(strip, size):
    """Tell the list of the strip's whole rows of the size, rising."""
    need_strip(strip)
    need_size(size)
    return [(first, step) for first, step in rows_in(len(strip), size) if is_one_hue(strip, first, step, size)]


def first_whole(strip, size):
    """Tell the first whole row of the size, None where there is none."""
    rows = whole_rows(strip, size)
    return rows[0] if rows else None


def whole_by(strip, size):
    """Tell how many whole rows of the size have the hue 0, 1, 2, 3."""
    found = [strip[first] for first, step in whole_rows(strip, size)]
    return tuple([found.count(hue) for hue in HUES])


def longest(strip):
    """Tell how many evenly spaced places of one hue there are at the most."""
    need_strip(strip)
    length = len(strip)
    # A step of the whole length leads out of the strip at once, so that a place alone counts as one.
    return max([alike_from(strip, first, step) for first in range(length) for step in range(1, length + 1)], default=0)


def alike_from(strip, first, step):
    """Tell how many places first, first + step and so on have the hue of the first before another one comes."""
    many = 0
    place = first
    while place < len(strip) and strip[place] == strip[first]:
        many += 1
        place += step
    return many
