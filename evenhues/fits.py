"""Sizes, one for each hue, and whether a strip fits them."""

from evenhues.checks import LEAST_SIZE, MOST_SIZE, are_wholes
from evenhues.errors import NoSizes
from evenhues.rows import most_step
from evenhues.strips import HUES, need_strip
from evenhues.wholes import is_one_hue


def are_sizes(thing):
    """Tell of anything whether it is sizes."""
    return isinstance(thing, tuple) and 1 <= len(thing) <= len(HUES) and are_wholes(thing, LEAST_SIZE, MOST_SIZE)


def need_sizes(thing):
    """Refuse what is no sizes."""
    if not are_sizes(thing):
        raise NoSizes("one to four sizes are due")


def fits(sizes, strip):
    """Tell whether the strip fits the sizes."""
    return first_wrong(sizes, strip) is None


def first_wrong(sizes, strip):
    """Tell by what the strip does not fit, ("hue", place) or ("row", first, step), None where it does."""
    need_sizes(sizes)
    need_strip(strip)
    place = first_hue_wrong(sizes, strip)
    if place is not None:
        return ("hue", place)
    row = first_row_wrong(sizes, strip)
    return None if row is None else ("row", row[0], row[1])


def first_hue_wrong(sizes, hues):
    """Tell the first place whose hue has no size, None where there is none."""
    for place, hue in enumerate(hues):
        if hue >= len(sizes):
            return place
    return None


def first_row_wrong(sizes, hues):
    """Tell the first row in one hue with as many places as its size, None where there is none.

    The hues are those that have a size, and numbers below 0 for places that have none.
    """
    for first, hue in enumerate(hues):
        if hue >= 0:
            for step in range(1, most_step(len(hues), first, sizes[hue]) + 1):
                if is_one_hue(hues, first, step, sizes[hue]):
                    return (first, step)
    return None
