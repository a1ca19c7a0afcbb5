"""All rings of a length that fit sizes."""

from evenhues.checks import need_whole
from evenhues.farthest import all_strips, need_small_sizes
from evenhues.rings import fits_round

MOST_RING_LENGTH = 12


def all_rings(sizes, length):
    """Tell the list of the rings of the length that fit, rising."""
    need_small_sizes(sizes)
    need_whole(length, 1, MOST_RING_LENGTH)
    # Each even row of a strip is an even round of it as a ring, so that no ring is missed among these.
    return [strip for strip in all_strips(sizes, length) if fits_round(sizes, strip)]


def rings_many(sizes, length):
    """Tell how many rings of the length fit."""
    return len(all_rings(sizes, length))


def first_ring(sizes, length):
    """Tell the first ring of the length that fits, None where there is none."""
    rings = all_rings(sizes, length)
    return rings[0] if rings else None
