"""Rings: strips that go round, their even rounds, and rings made of others."""

from evenhues.checks import MOST_PLACES, is_whole, need_size, need_whole
from evenhues.errors import NoNumber, NoPlace, NoRing, NoRound, TooGreat
from evenhues.fits import first_hue_wrong, need_sizes
from evenhues.strips import is_strip

MOST_LAID = 40


def need_ring(thing):
    """Refuse what is no ring."""
    if not is_strip(thing) or len(thing) == 0:
        raise NoRing("a strip with one place or more is due")


def need_ring_place(ring, thing):
    """Refuse what is no place of the ring."""
    if not is_whole(thing, 0, len(ring) - 1):
        raise NoPlace("a place of the ring is due")


def going_round(length, first, step, size):
    """Tell the places from first on, as many as the size, round a ring of the length."""
    return tuple([(first + step * at) % length for at in range(size)])


def are_unlike(places):
    """Tell whether no place stands twice among these."""
    return len(set(places)) == len(places)


def round_places(ring, first, step, size):
    """Tell the places of the even round, a tuple in their order."""
    need_ring(ring)
    need_ring_place(ring, first)
    need_whole(step, 1, len(ring) - 1)
    need_size(size)
    places = going_round(len(ring), first, step, size)
    if not are_unlike(places):
        raise NoRound("places that are unlike are due")
    return places


def is_whole_round(ring, first, step, size):
    """Tell whether the places from first on are an even round in one hue."""
    places = going_round(len(ring), first, step, size)
    return all([ring[place] == ring[first] for place in places]) and are_unlike(places)


def whole_rounds(ring, size):
    """Tell the list of the ring's whole rounds of the size, rising."""
    need_ring(ring)
    need_size(size)
    length = len(ring)
    pairs = [(first, step) for first in range(length) for step in range(1, length)]
    return [(first, step) for first, step in pairs if is_whole_round(ring, first, step, size)]


def first_round_wrong(sizes, ring):
    """Tell by what the ring does not fit, ("hue", place) or ("round", first, step), None where it does."""
    need_sizes(sizes)
    need_ring(ring)
    place = first_hue_wrong(sizes, ring)
    if place is not None:
        return ("hue", place)
    for first, hue in enumerate(ring):
        for step in range(1, len(ring)):
            if is_whole_round(ring, first, step, sizes[hue]):
                return ("round", first, step)
    return None


def fits_round(sizes, ring):
    """Tell whether the ring fits the sizes."""
    return first_round_wrong(sizes, ring) is None


def turned(ring, place):
    """Tell the ring that begins at the place."""
    need_ring(ring)
    need_ring_place(ring, place)
    return ring[place:] + ring[:place]


def greatest_divisor(one, other):
    """Tell the greatest divisor that the two have in common."""
    while other > 0:
        one, other = other, one % other
    return one


def strided(ring, by):
    """Tell the ring that has at its place k the hue of the place k times the number, round."""
    need_ring(ring)
    length = len(ring)
    need_whole(by, 1, length)
    if greatest_divisor(by, length) > 1:
        raise NoNumber("a number without a divisor in common with the length is due")
    return tuple([ring[place * by % length] for place in range(length)])


def laid(ring, often):
    """Tell the strip of the ring, laid so many times one behind the other."""
    need_ring(ring)
    need_whole(often, 0, MOST_LAID)
    many = len(ring) * often
    if many > MOST_PLACES:
        raise TooGreat(many, MOST_PLACES)
    return ring * often
