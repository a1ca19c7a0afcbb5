"""Strips, drafts, sizes and lots as texts, and read back."""

from evenhues.checks import MOST_PLACES, are_wholes
from evenhues.drafts import BLANK
from evenhues.errors import NoDraft, NoText
from evenhues.fits import are_sizes, need_sizes
from evenhues.lots import is_lot, need_lot
from evenhues.strips import HUES, need_strip

NONE = "none"
FIGURES = "0123456789"
MOST_FIGURES = 30

# The signs of the blank and of the hues, in their order.
SIGNS = ".0123"


def need_any_draft(thing):
    """Refuse what is no draft of any sizes."""
    if not isinstance(thing, tuple) or len(thing) > MOST_PLACES or not are_wholes(thing, BLANK, HUES[-1]):
        raise NoDraft("none to forty hues or blanks are due")


def hues_text(hues):
    """Tell the text of hues and blanks."""
    return "".join([SIGNS[hue - BLANK] for hue in hues]) if hues else NONE


def numbers_text(numbers):
    """Tell the text of numbers with a comma between each two."""
    return ",".join([str(number) for number in numbers]) if numbers else NONE


def strip_text(strip):
    """Tell the text of the strip."""
    need_strip(strip)
    return hues_text(strip)


def draft_text(draft):
    """Tell the text of the draft."""
    need_any_draft(draft)
    return hues_text(draft)


def sizes_text(sizes):
    """Tell the text of the sizes."""
    need_sizes(sizes)
    return numbers_text(sizes)


def lot_text(lot):
    """Tell the text of the lot."""
    need_lot(lot)
    return numbers_text(lot)


def need_text(thing):
    """Refuse what is no text at all."""
    if not isinstance(thing, str):
        raise NoText("a text is due")


def is_number_word(word):
    """Tell whether the text is a number in figures, without a nought ahead, of no more figures than are let."""
    if not 1 <= len(word) <= MOST_FIGURES or not all([sign in FIGURES for sign in word]):
        return False
    return word == FIGURES[0] or word[0] != FIGURES[0]


def numbers_read(text):
    """Tell the tuple of the numbers that are written with a comma between each two."""
    need_text(text)
    words = text.split(",")
    if not all([is_number_word(word) for word in words]):
        raise NoText("numbers with a comma between each two are due")
    return tuple([int(word) for word in words])


def draft_read(text):
    """Tell the draft that is so written."""
    need_text(text)
    if text == NONE:
        return ()
    if not 1 <= len(text) <= MOST_PLACES or not all([sign in SIGNS for sign in text]):
        raise NoText("the text of a draft is due")
    return tuple([SIGNS.index(sign) + BLANK for sign in text])


def strip_read(text):
    """Tell the strip that is so written."""
    strip = draft_read(text)
    if BLANK in strip:
        raise NoText("the text of a strip is due")
    return strip


def sizes_read(text):
    """Tell the sizes that are so written."""
    sizes = numbers_read(text)
    if not are_sizes(sizes):
        raise NoText("the text of sizes is due")
    return sizes


def lot_read(text):
    """Tell the lot that is so written."""
    lot = () if text == NONE else numbers_read(text)
    if not is_lot(lot):
        raise NoText("the text of a lot is due")
    return lot
