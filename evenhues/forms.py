"""Strips that are alike: backward, or with hues of like sizes exchanged."""

from evenhues.farthest import all_strips
from evenhues.leads import need_fit


def exchanges(sizes):
    """Tell all ways to exchange hues of like sizes, each a tuple with what stands for the hue h at place h."""
    hues = list(range(len(sizes)))
    ways = [()]
    for size in sizes:
        ways = [way + (hue,) for way in ways for hue in hues if sizes[hue] == size and hue not in way]
    return ways


def alike_to(sizes, strip):
    """Tell the list of all strips that are alike to the strip, rising."""
    ways = exchanges(sizes)
    return sorted({tuple([way[hue] for hue in hues]) for way in ways for hues in (strip, strip[::-1])})


def form_of(sizes, strip):
    """Tell the least strip that is alike to the strip."""
    need_fit(sizes, strip)
    return alike_to(sizes, strip)[0]


def are_alike(sizes, one, other):
    """Tell whether the two strips are alike."""
    need_fit(sizes, one)
    need_fit(sizes, other)
    return other in alike_to(sizes, one)


def alike_many(sizes, strip):
    """Tell how many strips are alike to the strip, itself among them."""
    need_fit(sizes, strip)
    return len(alike_to(sizes, strip))


def kinds(sizes, length):
    """Tell the list of the forms of all strips of the length that fit, rising."""
    return sorted({alike_to(sizes, strip)[0] for strip in all_strips(sizes, length)})
