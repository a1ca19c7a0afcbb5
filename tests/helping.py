"""What the tests share: things of other kinds, many strips, and the check of a refusal."""

import copy
import functools
import itertools
import random

BIG = 10 ** 30 - 1


def nested(deep, hull):
    """A thing that lies `deep` hulls deep."""
    thing = 0
    for _ in range(deep):
        thing = hull(thing)
    return thing


DEEP = [nested(40, lambda x: (x,)), nested(40, lambda x: [x]), nested(40, lambda x: {"a": x}), nested(40, lambda x: {7: x})]

# None of these is a strip, sizes, a draft, an order of hues, or a whole number.
STRANGE = [
    True, False, None, "", "0", "01", "()", "0123", [], [0], [0, 1, 2, 3], [3, 3], {}, {0: 0}, {"a": (0, 1)},
    ("0",), (None,), (True,), ((0,),), ([0],), ({},), (0, (1, 2)), ("row", 0, 1), "x" * 60, [None] * 999,
    (True, False), [()], {"k": [1, {2: ()}]}, (False, 1, 2, 3), (0, True, 2, 3), (3, True), (3, "3"),
] + DEEP

NUMBERS = [0, 1, -1, 2, 3, 8, 40, 41, BIG, -BIG]

# What never is a whole number.
NO_WHOLES = STRANGE + [(), (0,), (3, 3), (0, 1, 2, 3)]


def wrong_numbers(least, most):
    """Things that are no whole numbers from least to most."""
    return [least - 1, most + 1, BIG, -BIG] + NO_WHOLES


def short_strips(hues, most):
    """All strips of the hues from 0 on with up to `most` places."""
    return [strip for length in range(most + 1) for strip in itertools.product(range(hues), repeat=length)]


def mixed_strips(many, hues=4, most=40):
    """Strips of many lengths that look mixed, the same each time."""
    told = []
    seed = 12345
    for at in range(many):
        strip = []
        for _ in range((at * 7) % (most + 1)):
            seed = (seed * 1103515245 + 12345) % 2 ** 31
            strip.append((seed >> 16) % hues)
        told.append(tuple(strip))
    return told


@functools.lru_cache(maxsize=None)
def all_rows(length, size):
    rows = []
    for first in range(length):
        for step in range(1, length + 1):
            if max(first + step * k for k in range(size)) < length:
                rows.append((first, step))
    return rows


def rows_gone_through(length, size):
    """All rows of the size in the length, found by trying every first and step."""
    return list(all_rows(length, size))


def places(row, size):
    return [row[0] + row[1] * k for k in range(size)]


def wrong_rows(sizes, draft):
    """All rows in one hue with as many places as its size, rising."""
    told = []
    for hue, size in enumerate(sizes):
        for row in all_rows(len(draft), size):
            if all(draft[place] == hue for place in places(row, size)):
                told.append(row)
    return sorted(told)


def barring(sizes, draft, place, hue):
    """The rows that bar the hue at the blank place, rising."""
    told = []
    for row in all_rows(len(draft), sizes[hue]):
        own = places(row, sizes[hue])
        if place in own and all(draft[other] == hue for other in own if other != place):
            told.append(row)
    return told


def put(draft, place, hue):
    return draft[:place] + (hue,) + draft[place + 1:]


def blanks(draft):
    return [place for place, hue in enumerate(draft) if hue == -1]


def fillings_gone_through(sizes, draft):
    """All fillings of the draft, found by putting hues at its blanks in all ways."""
    told = []
    for hues in itertools.product(range(len(sizes)), repeat=draft.count(-1)):
        strip = draft
        for place, hue in zip(blanks(draft), hues):
            strip = put(strip, place, hue)
        if not wrong_rows(sizes, strip):
            told.append(strip)
    return sorted(told)


# The most blanks that a draft may have, by how many hues there are, for a bound of 512 and for one of 32.
BLANKS_512 = {1: 9, 2: 9, 3: 5, 4: 4}
BLANKS_32 = {1: 5, 2: 5, 3: 3, 4: 2}


def power(sizes, draft):
    """The power that bounds drafts."""
    return max(len(sizes), 2) ** draft.count(-1)


def blanked_drafts(sizes, most_blanks, lengths, each, seed):
    """Drafts of the lengths with at most so many blanks, clean as far as it can be or put at random."""
    chance = random.Random(seed)
    told = []
    for length in lengths:
        for at in range(each):
            many = chance.randint(0, min(length, most_blanks))
            empty = chance.sample(range(length), many)
            draft = (-1,) * length
            for place in chance.sample(range(length), length):
                if place not in empty:
                    hues = [hue for hue in range(len(sizes)) if not barring(sizes, draft, place, hue)]
                    if at % 3 == 2 or not hues:
                        hues = range(len(sizes))
                    draft = put(draft, place, chance.choice(hues))
            told.append(draft)
    return told


def ends_wrong(sizes, strip):
    """Whether a row in one hue, with as many places as its size, ends at the last place."""
    size = sizes[strip[-1]]
    rows = [(len(strip) - 1 - step * (size - 1), step) for step in range(1, len(strip))]
    return any(row[0] >= 0 and len({strip[place] for place in places(row, size)}) == 1 for row in rows)


def fitting_strip(sizes, length, seed):
    """A strip of the length that fits, None where none was found soon."""
    chance = random.Random(seed)
    for _ in range(300):
        strip = ()
        while len(strip) < length:
            hues = [hue for hue in range(len(sizes)) if not ends_wrong(sizes, strip + (hue,))]
            if not hues:
                break
            strip += (chance.choice(hues),)
        if len(strip) == length:
            return strip
    return None


def same_kind(one, other):
    """Equal, and of the same kinds all the way in (True is not 1 here)."""
    if type(one) is not type(other):
        return False
    if isinstance(one, (list, tuple)):
        return len(one) == len(other) and all(same_kind(a, b) for a, b in zip(one, other))
    if isinstance(one, dict):
        return list(one) == list(other) and all(same_kind(one[key], other[key]) for key in one)
    return one == other


def spoil(thing):
    """Change each list and dict within the thing, as an asker may do with what is the asker's own."""
    for part in thing.values() if isinstance(thing, dict) else thing if isinstance(thing, (list, tuple)) else ():
        spoil(part)
    if isinstance(thing, list):
        thing.append("the asker's own")
        thing.reverse()
    if isinstance(thing, dict):
        thing["own"] = "the asker's"


class Told:
    """Checks that a test case mixes in."""

    def ask(self, call, *args):
        """The answer; what was handed in is unchanged, and the same asked again is answered likewise."""
        before = copy.deepcopy(args)
        answer = call(*args)
        self.assertTrue(same_kind(args, before), call.__name__)
        kept = copy.deepcopy(answer)
        spoil(answer)
        self.assertTrue(same_kind(args, before), call.__name__)
        again = call(*args)
        self.assertTrue(same_kind(again, kept), call.__name__)
        return again

    def told(self, wanted, call, *args):
        answer = self.ask(call, *args)
        self.assertTrue(same_kind(answer, wanted), (call.__name__, args, answer, wanted))

    def refused(self, error, call, *args):
        """Refused by just this class, and nothing that was handed in is changed."""
        before = copy.deepcopy(args)
        with self.assertRaises(error) as caught:
            call(*args)
        self.assertIs(type(caught.exception), error, (call.__name__, args))
        self.assertTrue(same_kind(args, before), call.__name__)
        return caught.exception
