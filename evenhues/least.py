"""The papers for a draft with the least leaves, and with the least depth."""

from evenhues.drafts import blanks_of, with_hue
from evenhues.fillings import need_few_ways
from evenhues.fits import first_row_wrong
from evenhues.papers import CASES, row_paper

MOST_WAYS_OF_LEAST = 32


def cost_of_row(by_depth):
    """Tell the depth, or else the leaves, of a paper that is a row."""
    return 0 if by_depth else 1


def cost_of_cases(costs, by_depth):
    """Tell the depth, or else the leaves, of a paper by cases, of those of its papers."""
    return 1 + max(costs) if by_depth else sum(costs)


def least_pair(sizes, draft, by_depth, known):
    """Tell the least depth, or else leaves, and a paper that has it, None where there is a filling.

    In known stands what was found of drafts so far, so that each draft is looked at once.
    """
    if draft not in known:
        known[draft] = found_pair(sizes, draft, by_depth, known)
    return known[draft]


def found_pair(sizes, draft, by_depth, known):
    """Tell the pair of a draft that is not known yet."""
    row = first_row_wrong(sizes, draft)
    if row is not None:
        return (cost_of_row(by_depth), row_paper(row))
    best = None
    for place in blanks_of(draft):
        pair = pair_at(sizes, draft, place, by_depth, known)
        if pair is None:
            return None
        if best is None or pair[0] < best[0]:
            best = pair
    return best


def pair_at(sizes, draft, place, by_depth, known):
    """Tell the least pair whose paper goes by cases at the blank place, None where there is a filling."""
    costs = []
    papers = []
    for hue in range(len(sizes)):
        pair = least_pair(sizes, with_hue(draft, place, hue), by_depth, known)
        if pair is None:
            return None
        costs.append(pair[0])
        papers.append(pair[1])
    return (cost_of_cases(costs, by_depth), (CASES, place, tuple(papers)))


def least_pair_of(sizes, draft, by_depth):
    """Tell the least pair of what is handed in, None where there is a filling."""
    need_few_ways(sizes, draft, MOST_WAYS_OF_LEAST)
    return least_pair(sizes, draft, by_depth, {})


def least_leaves(sizes, draft):
    """Tell the least leaves of any paper for the draft, None where there is a filling."""
    pair = least_pair_of(sizes, draft, False)
    return None if pair is None else pair[0]


def least_depth(sizes, draft):
    """Tell the least depth of any paper for the draft, None where there is a filling."""
    pair = least_pair_of(sizes, draft, True)
    return None if pair is None else pair[0]


def short_paper(sizes, draft):
    """Tell some paper for the draft with the least leaves, None where there is a filling."""
    pair = least_pair_of(sizes, draft, False)
    return None if pair is None else pair[1]
