"""Fillings: strips that fit and have a draft's hues."""

from evenhues.drafts import BLANK, blanks_of, need_draft, unbarred, with_hue
from evenhues.errors import TooGreat
from evenhues.fits import first_row_wrong, fits
from evenhues.strips import is_strip

MOST_WAYS = 512


def ways_many(sizes, draft):
    """Tell the number of hues, 2 where it is one alone, to the power of the number of blanks."""
    ways = 1
    for place in blanks_of(draft):
        ways *= max(len(sizes), 2)
    return ways


def need_few_ways(sizes, draft, most):
    """Refuse what is no sizes, then what is no draft of them, then a draft of too many blanks."""
    need_draft(sizes, draft)
    ways = ways_many(sizes, draft)
    if ways > most:
        raise TooGreat(ways, most)


def keeps(draft, strip):
    """Tell whether the strip has as many places as the draft, and its hue wherever that is not blank."""
    return len(strip) == len(draft) and all([own in (BLANK, hue) for own, hue in zip(draft, strip)])


def is_filling(sizes, draft, thing):
    """Tell of anything whether it is a filling of the draft."""
    need_draft(sizes, draft)
    return is_strip(thing) and keeps(draft, thing) and fits(sizes, thing)


def all_fillings(sizes, draft):
    """Tell the list of the draft's fillings, rising."""
    need_few_ways(sizes, draft, MOST_WAYS)
    if first_row_wrong(sizes, draft) is not None:
        return []
    # A clean draft stays clean where an open hue is put, so that what is left in the end fits.
    drafts = [draft]
    for place in blanks_of(draft):
        drafts = [with_hue(part, place, hue) for part in drafts for hue in unbarred(sizes, part, place)]
    return drafts


def fillings_many(sizes, draft):
    """Tell how many fillings the draft has."""
    return len(all_fillings(sizes, draft))


def first_filling(sizes, draft):
    """Tell the first filling of the draft, None where there is none."""
    found = all_fillings(sizes, draft)
    return found[0] if found else None
