"""Runs: hues that are forced, put step by step, and the reasons for them."""

from evenhues.checks import MOST_PLACES, are_wholes
from evenhues.drafts import barring_rows, blanks_of, is_blank, is_hue, need_draft, unbarred, with_hue


def first_forced(sizes, draft):
    """Tell the first blank place with at most one open hue, None where there is none."""
    for place in blanks_of(draft):
        if len(unbarred(sizes, draft, place)) <= 1:
            return place
    return None


def run(sizes, draft):
    """Tell the draft in the end of its run, the list of the steps, and the place where it is stuck or None."""
    need_draft(sizes, draft)
    now = draft
    steps = []
    place = first_forced(sizes, now)
    while place is not None:
        hues = unbarred(sizes, now, place)
        if not hues:
            return (now, steps, place)
        steps.append((place, hues[0]))
        now = with_hue(now, place, hues[0])
        place = first_forced(sizes, now)
    return (now, steps, None)


def is_bar(sizes, draft, place, hue, thing):
    """Tell of anything whether it is a row that bars the hue at the blank place."""
    # The numbers are looked at first: a truth would pass for 0 or 1 beside the rows.
    is_row = isinstance(thing, tuple) and are_wholes(thing, 0, MOST_PLACES)
    return is_row and thing in barring_rows(sizes, draft, place, hue)


def are_rows_for(sizes, draft, place, hue, thing):
    """Tell of anything whether it has None for the hue, and a row that bars it for each other one."""
    if not isinstance(thing, tuple) or len(thing) != len(sizes):
        return False
    for other, row in enumerate(thing):
        if other == hue and row is not None:
            return False
        if other != hue and not is_bar(sizes, draft, place, other, row):
            return False
    return True


def is_reason(sizes, draft, thing):
    """Tell of anything whether it may stand first in reasons of the draft."""
    if not isinstance(thing, tuple) or len(thing) != 3:
        return False
    place, hue, rows = thing
    return is_blank(draft, place) and is_hue(sizes, hue) and are_rows_for(sizes, draft, place, hue, rows)


def are_reasons(sizes, draft, thing):
    """Tell of anything whether it is reasons of the draft."""
    need_draft(sizes, draft)
    if not isinstance(thing, list):
        return False
    now = draft
    for reason in thing:
        if not is_reason(sizes, now, reason):
            return False
        now = with_hue(now, reason[0], reason[1])
    return True


def rows_for(sizes, draft, place, hue):
    """Tell None for the hue, and the first row that bars it for each other one, which are all barred."""
    rows = [barring_rows(sizes, draft, place, other) for other in range(len(sizes))]
    return tuple([None if other == hue else found[0] for other, found in enumerate(rows)])


def reasons_for(sizes, draft):
    """Tell reasons that have the places and hues of the run's steps, in order."""
    now = draft
    reasons = []
    for place, hue in run(sizes, draft)[1]:
        reasons.append((place, hue, rows_for(sizes, now, place, hue)))
        now = with_hue(now, place, hue)
    return reasons
