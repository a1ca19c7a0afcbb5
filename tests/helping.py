"""What the tests share: things of other kinds, many strips, and the check of a refusal."""

import copy
import itertools

BIG = 10 ** 30 - 1


def nested(deep, hull):
    """A thing that lies `deep` hulls deep."""
    thing = 0
    for _ in range(deep):
        thing = hull(thing)
    return thing


DEEP = [nested(40, lambda x: (x,)), nested(40, lambda x: [x]), nested(40, lambda x: {"a": x}), nested(40, lambda x: {7: x})]

# None of these is a strip, sizes, a draft, an order of hues, or a whole number.
STRANGE = [
    True, False, None, "", "0", "01", "()", "0123", [], [0], [0, 1, 2, 3], [3, 3], {}, {0: 0}, {"a": (0, 1)},
    ("0",), (None,), (True,), ((0,),), ([0],), ({},), (0, (1, 2)), ("row", 0, 1), "x" * 60, [None] * 999,
    (True, False), [()], {"k": [1, {2: ()}]}, (False, 1, 2, 3), (0, True, 2, 3), (3, True), (3, "3"),
] + DEEP

NUMBERS = [0, 1, -1, 2, 3, 8, 40, 41, BIG, -BIG]

# What never is a whole number.
NO_WHOLES = STRANGE + [(), (0,), (3, 3), (0, 1, 2, 3)]


def wrong_numbers(least, most):
    """Things that are no whole numbers from least to most."""
    return [least - 1, most + 1, BIG, -BIG] + NO_WHOLES


def short_strips(hues, most):
    """All strips of the hues from 0 on with up to `most` places."""
    return [strip for length in range(most + 1) for strip in itertools.product(range(hues), repeat=length)]


def mixed_strips(many, hues=4, most=40):
    """Strips of many lengths that look mixed, the same each time."""
    told = []
    seed = 12345
    for at in range(many):
        strip = []
        for _ in range((at * 7) % (most + 1)):
            seed = (seed * 1103515245 + 12345) % 2 ** 31
            strip.append((seed >> 16) % hues)
        told.append(tuple(strip))
    return told


def rows_gone_through(length, size):
    """All rows of the size in the length, found by trying every first and step."""
    rows = []
    for first in range(length):
        for step in range(1, length + 1):
            if max(first + step * k for k in range(size)) < length:
                rows.append((first, step))
    return rows


def places(row, size):
    return [row[0] + row[1] * k for k in range(size)]


def same_kind(one, other):
    """Equal, and of the same kinds all the way in (True is not 1 here)."""
    if type(one) is not type(other):
        return False
    if isinstance(one, (list, tuple)):
        return len(one) == len(other) and all(same_kind(a, b) for a, b in zip(one, other))
    if isinstance(one, dict):
        return list(one) == list(other) and all(same_kind(one[key], other[key]) for key in one)
    return one == other


class Told:
    """Checks that a test case mixes in."""

    def ask(self, call, *args):
        """The answer; what was handed in is unchanged, and the same asked again is answered likewise."""
        before = copy.deepcopy(args)
        answer = call(*args)
        self.assertTrue(same_kind(args, before), call.__name__)
        kept = copy.deepcopy(answer)
        if isinstance(answer, list):
            answer.append("the asker's own")
            answer.reverse()
            again = call(*args)
            self.assertIsNot(again, answer)
            answer = again
        else:
            again = call(*args)
        self.assertTrue(same_kind(again, kept), call.__name__)
        return answer

    def told(self, wanted, call, *args):
        answer = self.ask(call, *args)
        self.assertTrue(same_kind(answer, wanted), (call.__name__, args, answer, wanted))

    def refused(self, error, call, *args):
        """Refused by just this class, and nothing that was handed in is changed."""
        before = copy.deepcopy(args)
        with self.assertRaises(error) as caught:
            call(*args)
        self.assertIs(type(caught.exception), error, (call.__name__, args))
        self.assertTrue(same_kind(args, before), call.__name__)
        return caught.exception
