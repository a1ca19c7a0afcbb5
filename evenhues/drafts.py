"""Drafts: strips with blanks, and the hues that even rows bar at a blank."""

from evenhues.checks import MOST_PLACES, are_wholes, is_whole
from evenhues.errors import NoDraft, NoHue, NoPlace
from evenhues.fits import first_row_wrong, need_sizes
from evenhues.rows import rows_at
from evenhues.wholes import is_one_hue

BLANK = -1


def is_draft(sizes, thing):
    """Tell of anything whether it is a draft of the sizes."""
    need_sizes(sizes)
    return isinstance(thing, tuple) and len(thing) <= MOST_PLACES and are_wholes(thing, BLANK, len(sizes) - 1)


def need_draft(sizes, thing):
    """Refuse what is no sizes, then what is no draft of them."""
    if not is_draft(sizes, thing):
        raise NoDraft("a draft of the sizes is due")


def is_blank(draft, thing):
    """Tell of anything whether it is a blank place of the draft."""
    return is_whole(thing, 0, len(draft) - 1) and draft[thing] == BLANK


def need_blank(draft, thing):
    """Refuse what is no blank place of the draft."""
    if not is_blank(draft, thing):
        raise NoPlace("a blank place is due")


def blanks_of(draft):
    """Tell the list of the draft's blank places, rising."""
    return [place for place, hue in enumerate(draft) if hue == BLANK]


def is_hue(sizes, thing):
    """Tell of anything whether it is a hue that has a size."""
    return is_whole(thing, 0, len(sizes) - 1)


def need_hue(sizes, thing):
    """Refuse what is no hue that has a size."""
    if not is_hue(sizes, thing):
        raise NoHue("a hue that has a size is due")


def clean(sizes, draft):
    """Tell whether no row in one hue has as many places as the hue's size."""
    need_draft(sizes, draft)
    return first_row_wrong(sizes, draft) is None


def with_hue(draft, place, hue):
    """Tell the draft with the hue at the place."""
    return draft[:place] + (hue,) + draft[place + 1:]


def barring_rows(sizes, draft, place, hue):
    """Tell the rows that bar the hue at the blank place, rising."""
    put = with_hue(draft, place, hue)
    size = sizes[hue]
    return [(first, step) for first, step in rows_at(len(draft), size, place) if is_one_hue(put, first, step, size)]


def bars(sizes, draft, place, hue):
    """Tell the list of the rows that bar the hue at the blank place, rising."""
    need_draft(sizes, draft)
    need_blank(draft, place)
    need_hue(sizes, hue)
    return barring_rows(sizes, draft, place, hue)


def open_hues(sizes, draft, place):
    """Tell the tuple of the hues that no row bars at the blank place, rising."""
    need_draft(sizes, draft)
    need_blank(draft, place)
    return unbarred(sizes, draft, place)


def unbarred(sizes, draft, place):
    """Tell the open hues of what surely is a blank place of a draft."""
    return tuple([hue for hue in range(len(sizes)) if not barring_rows(sizes, draft, place, hue)])
