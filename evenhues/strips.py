"""Strips: hues in a row, one for each place; and strips made of others."""

from evenhues.checks import MOST_PLACES, are_wholes, need_first, need_step
from evenhues.errors import NoHue, NoStrip, TooGreat

HUES = (0, 1, 2, 3)


def is_strip(thing):
    """Tell of anything whether it is a strip."""
    return isinstance(thing, tuple) and len(thing) <= MOST_PLACES and are_wholes(thing, HUES[0], HUES[-1])


def need_strip(thing):
    """Refuse what is no strip."""
    if not is_strip(thing):
        raise NoStrip("a strip is due")


def is_order(thing):
    """Tell of anything whether it has each of the four hues once."""
    return isinstance(thing, tuple) and are_wholes(thing, HUES[0], HUES[-1]) and tuple(sorted(thing)) == HUES


def backward(strip):
    """Tell the strip from its last hue to its first."""
    need_strip(strip)
    return strip[::-1]


def exchanged(strip, hues):
    """Tell the strip with hues[h] where the hue h stood."""
    need_strip(strip)
    if not is_order(hues):
        raise NoHue("the hues 0 to 3, each once, are due")
    return tuple([hues[hue] for hue in strip])


def thinned(strip, first, step):
    """Tell the strip of the hues at first, first + step and so on."""
    need_strip(strip)
    need_first(first)
    need_step(step)
    return strip[first::step]


def joined(one, other):
    """Tell the strip of the hues of the one, then those of the other one."""
    need_strip(one)
    need_strip(other)
    many = len(one) + len(other)
    if many > MOST_PLACES:
        raise TooGreat(many, MOST_PLACES)
    return one + other
