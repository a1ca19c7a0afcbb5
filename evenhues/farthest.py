"""All strips that fit sizes, grown place by place, and the greatest length of one."""

from evenhues.checks import need_length
from evenhues.errors import TooGreat
from evenhues.fits import need_sizes

MOST_PRODUCT = 12


def product_of(numbers):
    """Tell what the numbers come to, multiplied."""
    product = 1
    for number in numbers:
        product *= number
    return product


def need_small_sizes(thing):
    """Refuse what is no sizes, and sizes that come to too much for all their strips to be grown."""
    need_sizes(thing)
    product = product_of(thing)
    if product > MOST_PRODUCT:
        raise TooGreat(product, MOST_PRODUCT)


def may_follow(sizes, strip, hue):
    """Tell whether the strip, which fits, still fits with the hue behind it."""
    end = len(strip)
    others = sizes[hue] - 1
    # Only a row that ends at the new place can have become whole.
    for step in range(1, end // others + 1):
        if strip[end - others * step::step].count(hue) == others:
            return False
    return True


def grown(sizes, strips):
    """Tell all strips that fit and have one place more than these; rising where these are all, rising."""
    return [strip + (hue,) for strip in strips for hue in range(len(sizes)) if may_follow(sizes, strip, hue)]


def tally(sizes):
    """Tell the list that has at n how many strips of the length n fit, up to the greatest length."""
    need_small_sizes(sizes)
    counts = []
    strips = [()]
    while strips:
        counts.append(len(strips))
        strips = grown(sizes, strips)
    return counts


def farthest(sizes):
    """Tell the greatest length of a strip that fits."""
    return len(tally(sizes)) - 1


def all_strips(sizes, length):
    """Tell the list of the strips of the length that fit, rising."""
    need_small_sizes(sizes)
    need_length(length)
    strips = [()]
    for place in range(length):
        strips = grown(sizes, strips)
    return strips


def strips_many(sizes, length):
    """Tell how many strips of the length fit."""
    return len(all_strips(sizes, length))


def first_strip(sizes, length):
    """Tell the first strip of the length that fits, None where there is none."""
    strips = all_strips(sizes, length)
    return strips[0] if strips else None
