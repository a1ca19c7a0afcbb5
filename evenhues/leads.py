"""Strips led on: the hues that may stand behind them and ahead of them, and how far they go."""

from evenhues.checks import MOST_PLACES
from evenhues.errors import NoFit
from evenhues.farthest import grown, may_follow, need_small_sizes
from evenhues.fits import fits


def need_fit(sizes, thing):
    """Refuse what is no sizes, then what is no strip, then a strip that does not fit."""
    if not fits(sizes, thing):
        raise NoFit("a strip that fits the sizes is due")


def followers(sizes, strip):
    """Tell the hues that may stand behind what surely is a strip that fits, rising."""
    if len(strip) == MOST_PLACES:
        return ()
    return tuple([hue for hue in range(len(sizes)) if may_follow(sizes, strip, hue)])


def leaders(sizes, strip):
    """Tell the hues that may stand ahead of what surely is a strip that fits, rising."""
    # What fits fits backward, so that ahead of it is behind it there.
    return followers(sizes, strip[::-1])


def hues_behind(sizes, strip):
    """Tell the tuple of the hues that may stand behind the strip, rising."""
    need_fit(sizes, strip)
    return followers(sizes, strip)


def hues_ahead(sizes, strip):
    """Tell the tuple of the hues that may stand ahead of the strip, rising."""
    need_fit(sizes, strip)
    return leaders(sizes, strip)


def led_on(sizes, strip):
    """Tell the first of the longest strips that fit and begin with the strip."""
    need_small_sizes(sizes)
    need_fit(sizes, strip)
    strips = [strip]
    longer = grown(sizes, strips)
    while longer:
        strips = longer
        longer = grown(sizes, strips)
    return strips[0]


def led_more(sizes, strip):
    """Tell how many places more a strip has at the most that fits and begins with the strip."""
    return len(led_on(sizes, strip)) - len(strip)


def ends(sizes):
    """Tell the list of the strips that fit and that no hue may stand behind, rising."""
    need_small_sizes(sizes)
    found = []
    strips = [()]
    while strips:
        found.extend([strip for strip in strips if not followers(sizes, strip)])
        strips = grown(sizes, strips)
    return sorted(found)


def shut_ends(sizes):
    """Tell the list of the strips that fit and that no hue may stand behind, nor ahead of, rising."""
    return [strip for strip in ends(sizes) if not leaders(sizes, strip)]
