"""Points [101], [102] and [103]: a desk that is told rows."""

import random
import unittest

from evenhues.desk import Desk
from evenhues.errors import NoDeed, NoHue, NoLine, NoNumber, NoPlace, NoText, TooGreat

from tests.helping import BIG, NUMBERS, STRANGE, Told, barring, blanks, fillings_gone_through, power, put, wrong_rows
from tests.test_farthest import GREATEST, product
from tests.test_runs import run_step_by_step
from tests.test_texts import sizes_by_the_words

DEEDS = ["more", "cut", "put", "clear", "run", "back"]
QUESTIONS = ["draft", "sizes", "clean", "open", "stuck", "fillings", "first", "far"]
NUMBERS_DUE = {"more": 1, "put": 2, "clear": 1, "open": 1}
WORDS = DEEDS + QUESTIONS


def text_of(draft):
    return "".join(".0123"[hue + 1] for hue in draft) or "none"


def greatest(sizes):
    return sizes[0] - 1 if len(sizes) == 1 else GREATEST[tuple(sorted(sizes))]


class Model:
    """A desk by the words of the document; a refusal is told as its class, TooGreat with its fields."""

    def __init__(self):
        self.sizes = (3, 3)
        self.draft = ()
        self.past = []

    def kept(self, sizes, draft):
        self.past.append((self.sizes, self.draft))
        self.sizes, self.draft = sizes, draft
        return text_of(draft)

    def say(self, row):
        if type(row) is not str:
            return NoLine
        if row[:6] == "sizes ":
            sizes = sizes_by_the_words(row[6:])
            return NoText if sizes is None else self.kept(sizes, ())
        words = row.split(" ")
        if words[0] not in WORDS or len(words) != 1 + NUMBERS_DUE.get(words[0], 0):
            return NoLine
        for word in words[1:]:
            if not word or len(word) > 30 or set(word) - set("0123456789") or (word[0] == "0" and word != "0"):
                return NoLine
        return getattr(self, "do_" + words[0])(*[int(word) for word in words[1:]])

    def do_more(self, many):
        if many == 0 or len(self.draft) + many > 40:
            return NoNumber
        return self.kept(self.sizes, self.draft + (-1,) * many)

    def do_cut(self):
        return self.kept(self.sizes, self.draft[:-1]) if self.draft else NoDeed

    def do_put(self, place, hue):
        if place not in blanks(self.draft):
            return NoPlace
        return self.kept(self.sizes, put(self.draft, place, hue)) if hue < len(self.sizes) else NoHue

    def do_clear(self, place):
        if place >= len(self.draft) or self.draft[place] == -1:
            return NoPlace
        return self.kept(self.sizes, put(self.draft, place, -1))

    def do_run(self):
        return self.kept(self.sizes, run_step_by_step(self.sizes, self.draft)[0])

    def do_back(self):
        if not self.past:
            return NoDeed
        self.sizes, self.draft = self.past.pop()
        return text_of(self.draft)

    def do_draft(self):
        return text_of(self.draft)

    def do_sizes(self):
        return ",".join(str(size) for size in self.sizes)

    def do_clean(self):
        return "no" if wrong_rows(self.sizes, self.draft) else "yes"

    def do_open(self, place):
        if place not in blanks(self.draft):
            return NoPlace
        hues = [hue for hue in range(len(self.sizes)) if not barring(self.sizes, self.draft, place, hue)]
        return ",".join(str(hue) for hue in hues) or "none"

    def do_stuck(self):
        place = run_step_by_step(self.sizes, self.draft)[2]
        return "none" if place is None else str(place)

    def do_fillings(self):
        many = power(self.sizes, self.draft)
        return str(len(fillings_gone_through(self.sizes, self.draft))) if many <= 512 else (TooGreat, many, 512)

    def do_first(self):
        many = power(self.sizes, self.draft)
        if many > 512:
            return (TooGreat, many, 512)
        found = fillings_gone_through(self.sizes, self.draft)
        return text_of(found[0]) if found else "no"

    def do_far(self):
        many = product(self.sizes)
        return str(greatest(self.sizes)) if many <= 12 else (TooGreat, many, 12)


class DeskCase(Told, unittest.TestCase):

    def setUp(self):
        self.desk = Desk()
        self.model = Model()

    def say(self, row):
        """Tell the desk and the model the row; both are of one mind."""
        self.agree(self.desk, self.model, row)

    def agree(self, desk, model, row):
        wanted = model.say(row)
        if isinstance(wanted, str):
            answer = desk.say(row)
            self.assertIs(type(answer), str)
            self.assertEqual(answer, wanted, (row, model.sizes, model.draft))
        elif isinstance(wanted, tuple):
            error = self.refused(wanted[0], desk.say, row)
            self.assertEqual((error.many, error.most), wanted[1:])
        else:
            self.refused(wanted, desk.say, row)
        return wanted

    def answers(self, wanted, row):
        self.assertEqual(self.agree(self.desk, self.model, row), wanted, row)

    def look(self, desk=None, model=None):
        """Ask what is kept."""
        for row in ("draft", "sizes"):
            self.agree(desk or self.desk, model or self.model, row)


class Deeds(DeskCase):

    def test_at_first(self):
        self.answers("none", "draft")
        self.answers("3,3", "sizes")
        self.answers("yes", "clean")
        self.answers("none", "stuck")
        self.answers("1", "fillings")
        self.answers("none", "first")
        self.answers("8", "far")
        self.answers(NoPlace, "open 0")
        self.answers(NoDeed, "back")
        self.answers(NoDeed, "cut")
        self.answers("none", "run")

    def test_some_by_hand(self):
        self.answers("....", "more 4")
        self.answers("0...", "put 0 0")
        self.answers("00..", "put 1 0")
        self.answers("1", "open 2")
        self.answers("0,1", "open 3")
        self.answers("001.", "run")
        self.answers("00..", "back")
        self.answers("00..", "draft")
        self.answers("0...", "clear 1")
        self.answers("0..", "cut")
        self.answers("none", "sizes 2,2,2")
        self.answers("2,2,2", "sizes")
        self.answers("0..", "back")
        self.answers("3,3", "sizes")
        self.answers("0...", "back")
        self.answers("00..", "back")
        self.answers("0...", "back")
        self.answers("....", "back")
        self.answers("none", "back")
        self.answers(NoDeed, "back")
        self.answers(NoDeed, "back")

    def test_more_up_to_forty_and_beyond(self):
        for many in list(range(42)) + [10 ** 29, BIG]:
            self.say(f"more {many}")
            self.look()
            self.say("back")
        self.answers("." * 39, "more 39")
        self.answers(NoNumber, "more 2")
        self.answers("." * 40, "more 1")
        for many in [0, 1, 40, BIG]:
            self.answers(NoNumber, f"more {many}")
        self.answers("." * 39, "cut")
        self.answers(NoNumber, "more 0")

    def test_cut_down_to_nothing(self):
        self.say("more 3")
        self.say("put 2 1")
        for wanted in ["..", ".", "none", NoDeed, NoDeed]:
            self.answers(wanted, "cut")
        self.answers(".", "back")
        self.answers("..", "back")
        self.answers("..1", "back")

    def test_put_and_clear(self):
        for sizes in ["3", "3,3", "8,2,2", "4,4,4,4"]:
            self.say(f"sizes {sizes}")
            self.say("more 5")
            self.say("put 2 0")
            for place in [0, 1, 2, 3, 4, 5, 40, BIG]:
                for hue in [0, 1, 2, 3, 4, BIG]:
                    if self.agree(self.desk, self.model, f"put {place} {hue}") not in (NoPlace, NoHue):
                        self.look()
                        self.answers(NoPlace, f"put {place} {hue}")
                        self.say("back")
                self.say(f"clear {place}")
                self.look()
        self.say("sizes 3,3")
        self.say("more 2")
        self.answers("1.", "put 0 1")
        # Both are wrong: the place is looked at first.
        self.answers(NoPlace, "put 0 2")
        self.answers(NoPlace, "put 2 2")
        self.answers(NoHue, "put 1 2")
        self.answers(NoPlace, "clear 1")
        self.answers(NoPlace, "clear 2")
        self.answers("..", "clear 0")
        self.answers(NoPlace, "clear 0")

    def test_a_draft_that_is_not_clean(self):
        for row in ["more 4", "put 0 0", "put 1 0", "put 2 0", "clean", "first", "fillings", "open 3", "stuck", "run"]:
            self.say(row)
        self.answers("no", "clean")
        self.answers("no", "first")
        self.answers("0", "fillings")

    def test_run_and_stuck(self):
        for row in ["more 5", "put 0 0", "put 1 1", "put 3 1", "put 4 0"]:
            self.say(row)
        self.answers("none", "open 2")
        self.answers("2", "stuck")
        self.answers("01.10", "run")
        self.answers("no", "first")
        # A run that changes nothing is undone too.
        self.answers("01.10", "back")
        self.answers("01.1.", "back")

    def test_sizes_behind_the_blank(self):
        self.say("more 3")
        for text in ["", " ", "3", "3 ", " 3", "3,", "3,4", "3, 4", "3 4", "3,3,3,3", "3,3,3,3,3", "1", "9", "03", "none", "x",
                     "3\n", "+3", "-3", "sizes", "sizes 3", "0", "2,2,2,2", "8", "9" * 30, "\n", "3;4", "()", "(3, 3)"]:
            self.say("sizes " + text)
            self.look()
        self.answers(NoText, "sizes ")
        self.answers(NoText, "sizes  3")
        self.answers("none", "sizes 4,5")
        self.answers("4,5", "sizes")

    def test_sizes_kept_anew_are_a_deed_too(self):
        self.say("more 3")
        self.answers("none", "sizes 3,3")
        self.answers("...", "back")
        self.answers("none", "back")
        self.answers(NoDeed, "back")

    def test_what_was_refused_is_not_undone(self):
        self.say("more 2")
        self.say("put 0 1")
        for row in ["more 0", "more 39", "put 0 0", "put 1 2", "clear 1", "sizes ", "sizes 1", "x", "", "open 0", "draft", "far"]:
            self.say(row)
        self.answers("..", "back")
        self.answers("none", "back")
        self.answers(NoDeed, "cut")
        self.answers(NoDeed, "back")


class Questions(DeskCase):

    def test_too_many_blanks(self):
        for sizes, most in [("3", 9), ("3,3", 9), ("3,3,3", 5), ("4,4,4,4", 4)]:
            self.say(f"sizes {sizes}")
            self.say(f"more {most}")
            for row in ("fillings", "first"):
                self.assertIsInstance(self.agree(self.desk, self.model, row), str)
            self.say("more 1")
            for row in ("fillings", "first"):
                self.assertIsInstance(self.agree(self.desk, self.model, row), tuple)
            self.say("put 0 0")
            self.say("fillings")

    def test_far(self):
        for sizes in ["2", "8", "3,3", "3,4", "4,3", "2,6", "2,2,3", "3,2,2", "2,2,2"]:
            self.say(f"sizes {sizes}")
            self.assertIsInstance(self.agree(self.desk, self.model, "far"), str)
        for sizes in ["2,7", "4,4", "2,2,4", "2,2,2,2", "8,8,8,8"]:
            self.say(f"sizes {sizes}")
            self.assertIsInstance(self.agree(self.desk, self.model, "far"), tuple)

    def test_open_of_no_blank_place(self):
        self.say("more 3")
        self.say("put 1 0")
        for place in [1, 3, 4, 40, BIG]:
            self.answers(NoPlace, f"open {place}")
        self.answers("0,1", "open 0")

    def test_they_change_nothing(self):
        self.say("more 3")
        self.say("put 1 0")
        for row in ["draft", "sizes", "clean", "open 0", "open 1", "stuck", "fillings", "first", "far"]:
            for _ in range(2):
                self.say(row)
        self.answers("...", "back")
        self.answers("none", "back")


class NoLines(DeskCase):

    def test_other_first_words(self):
        for word in ["", "x", "More", "MORE", "mor", "moree", "size", "sizess", "Sizes 3,3", "drafts", "undo", "put0", "1",
                     "none", "yes", "more1", "sizes3", "sizes,3", "sizes\t3,3", "sizes\n3,3", "sizes\n", "\nsizes", "back\n"]:
            self.answers(NoLine, word)
            self.answers(NoLine, word + " 1")

    def test_a_word_more_or_fewer(self):
        for word in WORDS:
            for many in range(5):
                row = " ".join([word] + ["1"] * many)
                if many != NUMBERS_DUE.get(word, 0) and word != "sizes":
                    self.answers(NoLine, row)

    def test_blanks(self):
        self.say("more 3")
        for word in WORDS:
            row = " ".join([word] + ["1"] * NUMBERS_DUE.get(word, 0))
            for other in [" " + row, "  " + row, row + "\n", row + "\t", "\t" + row, "\n" + row, row + "\r"]:
                self.answers(NoLine, other)
            if word != "sizes":
                self.answers(NoLine, row + " ")
                self.answers(NoLine, row + "  ")
            if " " in row:
                self.answers(NoLine, row.replace(" ", "  ", 1))
                self.answers(NoLine, row.replace(" ", "\t"))
                self.answers(NoLine, row.replace(" ", "\n"))
        self.answers(NoLine, "put 1  0")
        self.answers(NoLine, "put  1 0")
        self.answers(NoLine, "put 1 ")
        self.answers(NoLine, "more ")
        self.answers(NoLine, " ")
        self.answers("...", "draft")

    def test_words_that_are_no_numbers(self):
        self.say("more 3")
        for wrong in ["01", "00", "-1", "+1", "1_0", "1.0", "x", "0x1", "1,0", "one", "1" * 31, "9" * 31, "1\n", "\t1", "(1)",
                      "none", ".", "-0", "1e1"]:
            for row in [f"more {wrong}", f"clear {wrong}", f"open {wrong}", f"put {wrong} 0", f"put 0 {wrong}",
                        f"put 99 {wrong}", f"put {wrong} {wrong}"]:
                self.answers(NoLine, row)
        self.answers(NoNumber, "more " + "9" * 30)
        self.answers(NoPlace, "put " + "9" * 30 + " " + "9" * 30)
        self.answers(NoHue, "put 0 " + "9" * 30)
        self.answers(NoPlace, "open " + "9" * 30)
        self.answers(NoPlace, "clear " + "9" * 30)
        self.look()

    def test_what_is_no_text(self):
        self.say("more 3")
        for thing in [thing for thing in STRANGE if not isinstance(thing, str)] + NUMBERS + [
            ["draft"], ("draft",), {"draft": 1}, ["more", "1"], ("sizes", "3,3"), None, True,
        ]:
            self.answers(NoLine, thing)
        self.answers("...", "draft")
        self.answers("none", "back")

    def test_no_line_ahead_of_all_else(self):
        self.answers(NoLine, "cut 1")
        self.answers(NoLine, "back 1")
        self.answers(NoLine, "more 00")
        self.answers(NoLine, "put 5 -1")
        self.answers(NoLine, "open")


OFTEN = ["more"] * 3 + ["put"] * 12 + ["clear"] * 3 + ["cut", "run", "run", "back", "back", "back"] + QUESTIONS * 2


def some_row(chance, model):
    """A row that a desk may be told, most often one that it knows, of a place that is there."""
    if chance.random() < 0.03:
        return "sizes " + chance.choice(["3,3", "3", "2,4", "3,3,3", "4,4,4,4", "8,8", "3,4", "2,2,2", "", "3,", "9", "3 "])
    word = chance.choice(OFTEN)
    if word == "more":
        return f"more {chance.choice([0, 1, 1, 2, 3, 5, 9, 33, 40])}"
    place = chance.randint(0, len(model.draft))
    if word == "put":
        return f"put {place} {chance.choice([0, 0, 0, 1, 1, 1, 2, 3, 4])}"
    if word in NUMBERS_DUE:
        return f"{word} {place}"
    return word if chance.random() < 0.97 else word + " "


class InManyOrders(DeskCase):

    def test_rows_in_many_orders(self):
        seen = set()
        for seed in range(60):
            chance = random.Random(seed)
            desk, model = Desk(), Model()
            for _ in range(100):
                row = some_row(chance, model)
                wanted = self.agree(desk, model, row)
                kind = "answer" if isinstance(wanted, str) else wanted[0] if isinstance(wanted, tuple) else wanted
                seen.add((row.split(" ")[0], kind))
                seen.add((row.split(" ")[0], wanted))
                self.look(desk, model)
            # Back through all that stands, and once more.
            while self.agree(desk, model, "back") is not NoDeed:
                self.look(desk, model)
            self.look(desk, model)
        for what in [(word, "answer") for word in WORDS] + [
            ("more", NoNumber), ("cut", NoDeed), ("put", NoPlace), ("put", NoHue), ("clear", NoPlace), ("back", NoDeed),
            ("sizes", NoText), ("open", NoPlace), ("fillings", TooGreat), ("first", TooGreat), ("far", TooGreat),
            ("clean", "yes"), ("clean", "no"), ("stuck", "none"), ("stuck", "3"), ("first", "no"), ("first", "none"),
            ("open", "none"), ("open", "1"), ("open", "0,1"), ("fillings", "0"), ("fillings", "1"), ("fillings", "2"),
        ]:
            self.assertIn(what, seen)

    def test_two_desks_by_turns(self):
        pairs = [(Desk(), Model()), (Desk(), Model()), (Desk(), Model())]
        chance = random.Random(103)
        for _ in range(300):
            desk, model = chance.choice(pairs)
            self.agree(desk, model, some_row(chance, model))
            for other in pairs:
                self.look(*other)
        self.assertEqual(Desk().say("draft"), "none")
        self.assertEqual(Desk().say("sizes"), "3,3")

    def test_the_deeds_that_stand_alone_matter(self):
        rows = ["sizes 3,4", "more 6", "put 0 0", "put 2 0", "run", "put 3 1", "clear 0", "cut"]
        plain = Desk()
        for row in rows:
            plain.say(row)
        other = Desk()
        for row in rows:
            other.say(row)
            self.refused(NoLine, other.say, "nothing")
            other.say("more 1")
            other.say("clean")
            other.say("back")
        for row in ["draft", "sizes", "clean", "stuck", "fillings", "first", "far"]:
            self.assertEqual(other.say(row), plain.say(row))
        for _ in rows:
            self.assertEqual(other.say("back"), plain.say("back"))


if __name__ == "__main__":
    unittest.main()
