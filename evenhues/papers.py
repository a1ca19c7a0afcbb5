"""Papers: they show that a draft has no filling, by a row in one hue or by cases."""

from evenhues.checks import is_whole
from evenhues.drafts import BLANK, barring_rows, blanks_of, is_blank, need_draft, with_hue
from evenhues.errors import NoPaper
from evenhues.fillings import MOST_WAYS, need_few_ways
from evenhues.fits import first_row_wrong
from evenhues.rows import most_step
from evenhues.wholes import is_one_hue

ROW = "row"
CASES = "cases"


def is_paper(sizes, draft, thing):
    """Tell of anything whether it is a paper that the draft has no filling."""
    need_draft(sizes, draft)
    return shows(sizes, draft, thing)


def shows(sizes, draft, thing):
    """Tell of anything whether it is a paper for what surely is a draft."""
    if not isinstance(thing, tuple) or len(thing) != 3:
        return False
    if thing[0] == ROW:
        return is_wrong_row(sizes, draft, thing[1], thing[2])
    return thing[0] == CASES and are_cases(sizes, draft, thing[1], thing[2])


def is_wrong_row(sizes, draft, first, step):
    """Tell of anything whether it is a row in one hue with as many places as the hue's size."""
    if not is_whole(first, 0, len(draft) - 1) or draft[first] == BLANK:
        return False
    size = sizes[draft[first]]
    return is_whole(step, 1, most_step(len(draft), first, size)) and is_one_hue(draft, first, step, size)


def are_cases(sizes, draft, place, papers):
    """Tell of anything whether it is a blank place and, for each hue put there, a paper."""
    if not is_blank(draft, place) or not isinstance(papers, tuple) or len(papers) != len(sizes):
        return False
    for hue, paper in enumerate(papers):
        if not shows(sizes, with_hue(draft, place, hue), paper):
            return False
    return True


def row_paper(row):
    """Tell the paper of the row."""
    return (ROW, row[0], row[1])


def paper_for(sizes, draft):
    """Tell some paper that the draft has no filling, None where there is one."""
    need_few_ways(sizes, draft, MOST_WAYS)
    row = first_row_wrong(sizes, draft)
    return cases_paper(sizes, draft, blanks_of(draft)) if row is None else row_paper(row)


def cases_paper(sizes, draft, blanks):
    """Tell a paper for the clean draft with these blanks, by its first one, None where there is a filling."""
    if not blanks:
        return None
    papers = []
    for hue in range(len(sizes)):
        # In a clean draft only a row that barred the hue is in one hue behind the putting.
        rows = barring_rows(sizes, draft, blanks[0], hue)
        put = with_hue(draft, blanks[0], hue)
        paper = row_paper(rows[0]) if rows else cases_paper(sizes, put, blanks[1:])
        if paper is None:
            return None
        papers.append(paper)
    return (CASES, blanks[0], tuple(papers))


def need_paper(sizes, draft, thing):
    """Refuse what is no sizes, then what is no draft of them, then what is no paper for it."""
    if not is_paper(sizes, draft, thing):
        raise NoPaper("a paper for the draft is due")


def leaves(sizes, draft, paper):
    """Tell how many rows the paper is made of."""
    need_paper(sizes, draft, paper)
    return leaves_within(paper)


def leaves_within(paper):
    """Tell the leaves of what surely is a paper."""
    return 1 if paper[0] == ROW else sum([leaves_within(part) for part in paper[2]])


def depth(sizes, draft, paper):
    """Tell how many cases lie within one another in the paper at the most."""
    need_paper(sizes, draft, paper)
    return depth_within(paper)


def depth_within(paper):
    """Tell the depth of what surely is a paper."""
    return 0 if paper[0] == ROW else 1 + max([depth_within(part) for part in paper[2]])
