"""A desk: it keeps sizes and a draft of them, and answers rows of words."""

from evenhues.checks import MOST_PLACES
from evenhues.drafts import BLANK, clean, need_blank, need_hue, open_hues, with_hue
from evenhues.errors import NoDeed, NoLine, NoNumber, NoPlace
from evenhues.farthest import farthest
from evenhues.fillings import fillings_many, first_filling
from evenhues.runs import run
from evenhues.texts import NONE, draft_text, is_number_word, lot_text, sizes_read, sizes_text, strip_text

FIRST_SIZES = (3, 3)
SIZES_AHEAD = "sizes "
BACK = "back"

# How many numbers are due behind each first word.
NUMBERS_DUE = {
    "more": 1, "cut": 0, "put": 2, "clear": 1, "run": 0, "back": 0, "draft": 0, "sizes": 0, "clean": 0, "open": 1,
    "stuck": 0, "fillings": 0, "first": 0, "far": 0,
}


def with_more(sizes, draft, numbers):
    """Tell the draft with so many blanks more behind."""
    if numbers[0] == 0 or len(draft) + numbers[0] > MOST_PLACES:
        raise NoNumber("at least one blank, and at most forty places, are due")
    return draft + (BLANK,) * numbers[0]


def without_last(sizes, draft, numbers):
    """Tell the draft without its last place."""
    if not draft:
        raise NoDeed("there is no place to be cut")
    return draft[:-1]


def with_put(sizes, draft, numbers):
    """Tell the draft with the hue at the blank place."""
    need_blank(draft, numbers[0])
    need_hue(sizes, numbers[1])
    return with_hue(draft, numbers[0], numbers[1])


def with_cleared(sizes, draft, numbers):
    """Tell the draft with the place blank."""
    if numbers[0] >= len(draft) or draft[numbers[0]] == BLANK:
        raise NoPlace("a place that has a hue is due")
    return with_hue(draft, numbers[0], BLANK)


def with_run(sizes, draft, numbers):
    """Tell the draft in the end of its run."""
    return run(sizes, draft)[0]


def tell_draft(sizes, draft, numbers):
    """Tell the draft as written."""
    return draft_text(draft)


def tell_sizes(sizes, draft, numbers):
    """Tell the sizes as written."""
    return sizes_text(sizes)


def tell_clean(sizes, draft, numbers):
    """Tell whether the draft is clean."""
    return "yes" if clean(sizes, draft) else "no"


def tell_open(sizes, draft, numbers):
    """Tell the open hues of the blank place."""
    return lot_text(open_hues(sizes, draft, numbers[0]))


def tell_stuck(sizes, draft, numbers):
    """Tell the place where the run is stuck."""
    place = run(sizes, draft)[2]
    return NONE if place is None else str(place)


def tell_fillings(sizes, draft, numbers):
    """Tell how many fillings there are."""
    return str(fillings_many(sizes, draft))


def tell_first(sizes, draft, numbers):
    """Tell the first filling."""
    strip = first_filling(sizes, draft)
    return "no" if strip is None else strip_text(strip)


def tell_far(sizes, draft, numbers):
    """Tell the greatest length of a strip that fits."""
    return str(farthest(sizes))


DEEDS = {"more": with_more, "cut": without_last, "put": with_put, "clear": with_cleared, "run": with_run}
QUESTIONS = {
    "draft": tell_draft, "sizes": tell_sizes, "clean": tell_clean, "open": tell_open, "stuck": tell_stuck,
    "fillings": tell_fillings, "first": tell_first, "far": tell_far,
}


def words_of(row):
    """Tell the first word of the row and the tuple of the numbers behind it; refuse a row that is none."""
    word, *others = row.split(" ")
    if word not in NUMBERS_DUE or len(others) != NUMBERS_DUE[word] or not all([is_number_word(one) for one in others]):
        raise NoLine("a row that a desk knows is due")
    return (word, tuple([int(one) for one in others]))


class Desk:
    """What is kept on a desk: sizes, a draft of them, and what was kept ahead of each deed that stands."""

    def __init__(self):
        self.sizes = FIRST_SIZES
        self.draft = ()
        self.past = []

    def say(self, row):
        """Answer a row, or refuse it."""
        if not isinstance(row, str):
            raise NoLine("a text is due")
        if row.startswith(SIZES_AHEAD):
            return self.keep(sizes_read(row[len(SIZES_AHEAD):]), ())
        word, numbers = words_of(row)
        if word == BACK:
            return self.undo()
        if word in DEEDS:
            deed = DEEDS[word]
            return self.keep(self.sizes, deed(self.sizes, self.draft, numbers))
        question = QUESTIONS[word]
        return question(self.sizes, self.draft, numbers)

    def keep(self, sizes, draft):
        """Keep these from now on, by a deed that can be undone; tell the draft as written."""
        self.past.append((self.sizes, self.draft))
        self.sizes = sizes
        self.draft = draft
        return draft_text(draft)

    def undo(self):
        """Undo the last deed that stands; tell the draft as written."""
        if not self.past:
            raise NoDeed("no deed stands")
        kept = self.past.pop()
        self.sizes = kept[0]
        self.draft = kept[1]
        return draft_text(self.draft)
