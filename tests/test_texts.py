"""Points [91] and [92]: strips, drafts, sizes and lots as texts, and read back."""

import itertools
import re
import unittest

from evenhues.errors import NoDraft, NoLot, NoSizes, NoStrip, NoText
from evenhues.texts import draft_read, draft_text, lot_read, lot_text, sizes_read, sizes_text, strip_read, strip_text

from tests.helping import BIG, NUMBERS, STRANGE, Told, mixed_strips, put, short_strips
from tests.test_farthest import ALL_SIZES
from tests.test_fits import NO_SIZES, NO_STRIPS
from tests.test_lots import NO_LOTS, some_lots

NO_DRAFTS = STRANGE + NUMBERS + [
    (-2,), (4,), (0, -2), (0, 4), (0,) * 41, (-1,) * 41, [-1], [0, 1], (BIG,), (-BIG,), (0, None), (-1, True),
    (False, -1), (0, "1"), (0, "."), ".", "0.", (0,) * 1000,
]
READ = (strip_read, draft_read, sizes_read, lot_read)

# No text at all, or one that nothing is written as.
NO_TEXTS = [thing for thing in STRANGE if not isinstance(thing, str)] + NUMBERS + [
    (), (0,), ("0",), ["0"], {"0": 0}, {0: "0"}, "", "None", "NONE", "nOne", " none", "none ", "none\n", "non", "nonee",
    "none,none", "none0", "0none", "()", "(0,)", "[]", "0 1", "0,", ",0", ",", "0,,1", "-1", "+1", "--", "0x1", "1_0", "1.5",
    "4 ", " 4", "\n", "\t", "4\n", "x", "3;4", "3, 4", "3 ,4", "3,4,", ",3,4", "3,,4", "03", "00,1", "0,01", "03,4", "3,04",
    "-3", "+3", "3,-4", "3,+4", "3,4_0", "9" * 30, "1" + "0" * 29, "3," + "9" * 30, "9" * 60, "3" * 41, "." * 41, "0" * 60,
]
# The signs that are put in, or stand in another one's place.
SIGNS = "0123456789,.-+_ \n\tnoexX;/*()'\"~!:"


def strip_by_the_words(text):
    if text == "none":
        return ()
    return tuple(int(sign) for sign in text) if re.fullmatch("[0-3]{1,40}", text) else None


def draft_by_the_words(text):
    if text == "none":
        return ()
    return tuple("0123".find(sign) for sign in text) if re.fullmatch("[.0-3]{1,40}", text) else None


def sizes_by_the_words(text):
    return tuple(int(word) for word in text.split(",")) if re.fullmatch("[2-8](,[2-8]){0,3}", text) else None


def lot_by_the_words(text):
    if text == "none":
        return ()
    if not re.fullmatch("(0|[1-9][0-9]*)(,(0|[1-9][0-9]*))*", text):
        return None
    lot = tuple(int(word) for word in text.split(","))
    return lot if lot[-1] < 40 and all(one < other for one, other in zip(lot, lot[1:])) else None


BY_THE_WORDS = {
    strip_read: strip_by_the_words, draft_read: draft_by_the_words, sizes_read: sizes_by_the_words,
    lot_read: lot_by_the_words,
}


def some_drafts():
    return [tuple(hue if at % 3 else -1 for at, hue in enumerate(strip)) for strip in mixed_strips(82)]


def changed(text):
    """The text with one sign left out, put in, or exchanged, anywhere."""
    for at in range(len(text) + 1):
        for sign in SIGNS:
            yield text[:at] + sign + text[at:]
            yield text[:at] + sign + text[at + 1:]
        yield text[:at] + text[at + 1:]


class Written(Told, unittest.TestCase):

    def test_strips_sign_by_sign(self):
        for strip in mixed_strips(82) + short_strips(4, 3)[1:] + [(hue,) * 40 for hue in range(4)]:
            if strip:
                text = strip_text(strip)
                self.assertIs(type(text), str)
                self.assertEqual(len(text), len(strip))
                for sign, hue in zip(text, strip):
                    self.assertEqual(sign, "0123"[hue])
                self.told(strip, strip_read, text)
                self.told(text, draft_text, strip)
        self.told("none", strip_text, ())
        self.told("0110", strip_text, (0, 1, 1, 0))
        self.told((), strip_read, "none")

    def test_drafts_sign_by_sign(self):
        short = [draft for many in (1, 2, 3) for draft in itertools.product(range(-1, 4), repeat=many)]
        for draft in some_drafts() + short + [(-1,) * 40]:
            if draft:
                text = draft_text(draft)
                self.assertEqual(len(text), len(draft))
                for sign, hue in zip(text, draft):
                    self.assertEqual(sign, "." if hue == -1 else "0123"[hue])
                self.told(draft, draft_read, text)
        self.told("none", draft_text, ())
        self.told("0..3", draft_text, (0, -1, -1, 3))
        self.told((), draft_read, "none")

    def test_sizes(self):
        for sizes in ALL_SIZES:
            text = sizes_text(sizes)
            self.assertEqual(text.split(","), ["--2345678"[size] for size in sizes])
            self.assertEqual(sizes_read(text), sizes)
        self.told("3,4", sizes_text, (3, 4))
        self.told("8", sizes_text, (8,))
        self.told((2, 3, 4, 8), sizes_read, "2,3,4,8")

    def test_lots(self):
        figures = [str(tens) + str(ones) if tens else str(ones) for tens in range(4) for ones in range(10)]
        for lot in some_lots() + [(place,) for place in range(40)]:
            if lot:
                text = lot_text(lot)
                self.assertEqual(text.split(","), [figures[place] for place in lot])
                self.told(lot, lot_read, text)
        self.told("none", lot_text, ())
        self.told("0,10,39", lot_text, (0, 10, 39))
        self.told((), lot_read, "none")
        self.told(tuple(range(40)), lot_read, ",".join(figures))

    def test_refused(self):
        for thing in NO_STRIPS + [(-1,), (0, -2), [0], (0,) * 1000]:
            self.refused(NoStrip, strip_text, thing)
        for thing in NO_DRAFTS:
            self.refused(NoDraft, draft_text, thing)
        for thing in NO_SIZES:
            self.refused(NoSizes, sizes_text, thing)
        for thing in NO_LOTS:
            self.refused(NoLot, lot_text, thing)

    def test_a_wrong_one_at_any_place(self):
        for place in range(40):
            for wrong in [-2, 4, True, False, None, "0", "", (), [0], {}, BIG, -BIG]:
                self.refused(NoDraft, draft_text, put((-1, 0, 1, 2) * 10, place, wrong))
                self.refused(NoStrip, strip_text, put((3, 0, 1, 2) * 10, place, wrong))
            self.refused(NoStrip, strip_text, put((3, 0, 1, 2) * 10, place, -1))


class Read(Told, unittest.TestCase):

    def read(self, call, text):
        wanted = BY_THE_WORDS[call](text)
        if wanted is None:
            self.refused(NoText, call, text)
        else:
            self.told(wanted, call, text)
        return wanted

    def test_each_text_with_one_sign_otherwise(self):
        texts = {
            strip_read: ["none", "0", "0110", "3210", "0123" * 10, "1" * 39],
            draft_read: ["none", ".", "0..3", "0.1.2.3", "012." * 10, "." * 39],
            sizes_read: ["2", "8", "3,4", "2,3,4", "8,7,6,5"],
            lot_read: ["none", "0", "39", "0,1", "9,10,11", "0,10,20,30,39", "38,39"],
        }
        for call in READ:
            seen = set()
            for text in texts[call]:
                self.assertIsNotNone(self.read(call, text))
                for other in changed(text):
                    seen.add(self.read(call, other) is None)
            self.assertEqual(seen, {True, False})

    def test_all_short_texts(self):
        for call in READ:
            for many in range(4):
                for signs in itertools.product("0129,. -", repeat=many):
                    self.read(call, "".join(signs))

    def test_each_number_that_is_written(self):
        for number in range(-50, 150):
            for call in READ:
                self.read(call, str(number))
                self.read(call, "0" + str(number))
                self.read(call, f"3,{number}")

    def test_other_things(self):
        for call in READ:
            for thing in NO_TEXTS:
                if not isinstance(thing, str):
                    self.refused(NoText, call, thing)
                else:
                    self.read(call, thing)

    def test_none_of_them(self):
        for text in ["", "None", "x", "9" * 30, "1" + "0" * 28 + "9", "-1", "+1", "1_0", "none ", " none", "none\n"]:
            for call in READ:
                self.refused(NoText, call, text)
        self.refused(NoText, sizes_read, "none")

    def test_too_many_places(self):
        self.refused(NoText, strip_read, "0" * 41)
        self.refused(NoText, draft_read, "." * 41)
        self.refused(NoText, sizes_read, "3,3,3,3,3")
        self.refused(NoText, lot_read, ",".join(str(place) for place in range(41)))
        self.refused(NoText, lot_read, "40")

    def test_lots_that_do_not_rise(self):
        for text in ["1,0", "0,0", "0,2,1", "39,38", "10,9", "2,10,3", "0,1,1"]:
            self.refused(NoText, lot_read, text)

    def test_a_draft_is_no_strip(self):
        for text in [".", "0.", ".0", "01.10", "." * 40]:
            self.refused(NoText, strip_read, text)


if __name__ == "__main__":
    unittest.main()
