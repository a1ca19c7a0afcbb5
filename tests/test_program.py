"""Points [1] to [4] and the interface, over the whole program."""

import copy
import importlib
import inspect
import unittest

from evenhues import errors
from evenhues.desk import Desk

from tests.helping import BIG, DEEP, Told, same_kind, spoil

# Each function of the interface as the document names it, with what it is refused with, argument by argument (a dash
# where it is told of anything), and arguments that it answers.
INTERFACE = """
strips    is_strip(thing)                     -                              [((0, 1),), ((),)]
strips    backward(strip)                     NoStrip                        [((0, 1, 2),)]
strips    exchanged(strip, hues)              NoStrip NoHue                  [((0, 1, 2), (3, 2, 1, 0))]
strips    thinned(strip, first, step)         NoStrip NoNumber NoNumber      [((0, 1, 2), 1, 2)]
strips    joined(one, other)                  NoStrip NoStrip                [((0, 1), (2,))]
rows      places_of(first, step, size)        NoNumber NoNumber NoNumber     [(0, 1, 3)]
rows      rows_in(length, size)               NoNumber NoNumber              [(9, 3), (1, 3)]
rows      rows_at(length, size, place)        NoNumber NoNumber NoPlace      [(9, 3, 4)]
rows      rows_many(length, size)             NoNumber NoNumber              [(9, 3)]
wholes    whole_rows(strip, size)             NoStrip NoNumber               [((0, 0, 0, 0), 3)]
wholes    first_whole(strip, size)            NoStrip NoNumber               [((0, 0, 0, 0), 3), ((0, 1), 2)]
wholes    whole_by(strip, size)               NoStrip NoNumber               [((0, 0, 1, 1), 2)]
wholes    longest(strip)                      NoStrip                        [((0, 0, 1, 1),)]
fits      are_sizes(thing)                    -                              [((3, 3),), ((),)]
fits      fits(sizes, strip)                  NoSizes NoStrip                [((3, 3), (0, 0, 0))]
fits      first_wrong(sizes, strip)           NoSizes NoStrip                [((3, 3), (0, 0, 0)), ((3, 3), (2,))]
farthest  farthest(sizes)                     NoSizes                        [((3, 3),)]
farthest  strips_many(sizes, length)          NoSizes NoNumber               [((3, 3), 5)]
farthest  all_strips(sizes, length)           NoSizes NoNumber               [((3, 3), 5), ((3, 3), 9)]
farthest  first_strip(sizes, length)          NoSizes NoNumber               [((3, 3), 5), ((3, 3), 9)]
farthest  tally(sizes)                        NoSizes                        [((3, 3),)]
drafts    is_draft(sizes, thing)              NoSizes -                      [((3, 3), (0, -1)), ((3, 3), (2,))]
drafts    clean(sizes, draft)                 NoSizes NoDraft                [((3, 3), (0, -1))]
drafts    bars(sizes, draft, place, hue)      NoSizes NoDraft NoPlace NoHue  [((3, 3), (0, 0, -1, 0), 2, 0)]
drafts    open_hues(sizes, draft, place)      NoSizes NoDraft NoPlace        [((3, 3), (0, 0, -1), 2)]
fillings  is_filling(sizes, draft, thing)     NoSizes NoDraft -              [((3, 3), (0, -1), (0, 1))]
fillings  fillings_many(sizes, draft)         NoSizes NoDraft                [((3, 3), (0, -1, -1))]
fillings  all_fillings(sizes, draft)          NoSizes NoDraft                [((3, 3), (0, -1, -1))]
fillings  first_filling(sizes, draft)         NoSizes NoDraft                [((3, 3), (0, -1, -1))]
runs      run(sizes, draft)                   NoSizes NoDraft                [((3, 3), (0, 0, -1, -1))]
runs      are_reasons(sizes, draft, thing)    NoSizes NoDraft -              [((3, 3), (0, 0, -1), [(2, 1, ((0, 1), None))])]
runs      reasons_for(sizes, draft)           NoSizes NoDraft                [((3, 3), (0, 0, -1, -1))]
papers    is_paper(sizes, draft, thing)       NoSizes NoDraft -              [((3, 3), (0, 0, 0), ("row", 0, 1))]
papers    paper_for(sizes, draft)             NoSizes NoDraft                [((3, 3), (0, 1, -1, 1, 0)), ((3, 3), (-1,))]
papers    leaves(sizes, draft, paper)         NoSizes NoDraft NoPaper        [((3, 3), (0, 0, 0), ("row", 0, 1))]
papers    depth(sizes, draft, paper)          NoSizes NoDraft NoPaper        [((3, 3), (0, 0, 0), ("row", 0, 1))]
least     least_leaves(sizes, draft)          NoSizes NoDraft                [((3, 3), (0, 1, -1, 1, 0))]
least     least_depth(sizes, draft)           NoSizes NoDraft                [((3, 3), (0, 1, -1, 1, 0))]
least     short_paper(sizes, draft)           NoSizes NoDraft                [((3, 3), (0, 1, -1, 1, 0))]
leads     hues_behind(sizes, strip)           NoSizes NoStrip                [((3, 3), (0, 0))]
leads     hues_ahead(sizes, strip)            NoSizes NoStrip                [((3, 3), (0, 0))]
leads     led_more(sizes, strip)              NoSizes NoStrip                [((3, 3), (0, 0))]
leads     led_on(sizes, strip)                NoSizes NoStrip                [((3, 3), (0, 0))]
leads     ends(sizes)                         NoSizes                        [((3, 3),)]
leads     shut_ends(sizes)                    NoSizes                        [((3, 3),)]
forms     form_of(sizes, strip)               NoSizes NoStrip                [((3, 3), (0, 1, 1))]
forms     are_alike(sizes, one, other)        NoSizes NoStrip NoStrip        [((3, 3), (0, 1, 1), (0, 0, 1))]
forms     alike_many(sizes, strip)            NoSizes NoStrip                [((3, 3), (0, 1, 1))]
forms     kinds(sizes, length)                NoSizes NoNumber               [((3, 3), 5)]
lots      is_lot(thing)                       -                              [((0, 1),), ((1, 0),)]
lots      is_bare(size, lot)                  NoNumber NoLot                 [(3, (0, 1, 3))]
lots      first_full(size, lot)               NoNumber NoLot                 [(3, (0, 1, 2))]
lots      hits(size, length, lot)             NoNumber NoNumber NoLot        [(3, 5, (2,))]
early     early(size, length)                 NoNumber NoNumber              [(3, 40)]
early     is_early(size, place)               NoNumber NoPlace               [(3, 39)]
early     figures(size, place)                NoNumber NoPlace               [(3, 39)]
most      bare_many(size, length)             NoNumber NoNumber              [(3, 9)]
most      most(size, length)                  NoNumber NoNumber              [(3, 9)]
most      all_most(size, length)              NoNumber NoNumber              [(3, 9), (3, 0)]
most      first_most(size, length)            NoNumber NoNumber              [(3, 9)]
most      fewest_hits(size, length)           NoNumber NoNumber              [(3, 9)]
most      first_hit(size, length)             NoNumber NoNumber              [(3, 9)]
rings     round_places(ring, first, step, size) NoRing NoPlace NoNumber NoNumber [((0, 1, 2, 3, 0), 3, 2, 3)]
rings     whole_rounds(ring, size)            NoRing NoNumber                [((0, 0, 0), 2)]
rings     fits_round(sizes, ring)             NoSizes NoRing                 [((3, 3), (0, 0, 1, 0))]
rings     first_round_wrong(sizes, ring)      NoSizes NoRing                 [((3, 3), (0, 0, 1, 0))]
rings     turned(ring, place)                 NoRing NoPlace                 [((0, 1, 2), 1)]
rings     strided(ring, by)                   NoRing NoNumber                [((0, 1, 2), 2)]
rings     laid(ring, often)                   NoRing NoNumber                [((0, 1, 2), 2)]
ringlists rings_many(sizes, length)           NoSizes NoNumber               [((3, 3), 4)]
ringlists all_rings(sizes, length)            NoSizes NoNumber               [((3, 3), 4)]
ringlists first_ring(sizes, length)           NoSizes NoNumber               [((3, 3), 4), ((3, 3), 12)]
stands    is_stand(size, thing)               NoNumber -                     [(3, (0, 1, 2)), (3, (2,))]
stands    hand_on(size, stand)                NoNumber NoStand               [(3, (0, 1, 2))]
stands    won_by(size, stand)                 NoNumber NoStand               [(3, (1, 1, 1, 2, 2))]
stands    may_take(size, stand)               NoNumber NoStand               [(3, (0, 1, 2))]
stands    taken(size, stand, place)           NoNumber NoStand NoPlace       [(3, (0, 1, 2), 0)]
play      worth(size, stand)                  NoNumber NoStand               [(3, (0, 0, 1, 2, 0))]
play      best(size, stand)                   NoNumber NoStand               [(3, (0, 0, 1, 2, 0))]
play      line(size, stand)                   NoNumber NoStand               [(3, (0, 0, 1, 2, 0))]
play      contrary_worth(size, stand)         NoNumber NoStand               [(3, (0, 0, 1, 2, 0))]
plans     wins_by(size, stand, hand, thing)   NoNumber NoStand NoNumber -    [(3, (1, 1, 0, 2, 2), 1, {"11022": 2})]
plans     holds_by(size, stand, hand, thing)  NoNumber NoStand NoNumber -    [(3, (1, 1, 0, 2, 2), 1, {"11022": 2})]
plans     win_plan(size, stand, hand)         NoNumber NoStand NoNumber      [(3, (0, 0, 0, 0, 0), 1)]
plans     hold_plan(size, stand, hand)        NoNumber NoStand NoNumber      [(3, (0, 0, 0, 0), 2)]
texts     strip_text(strip)                   NoStrip                        [((0, 1),)]
texts     draft_text(draft)                   NoDraft                        [((0, -1),)]
texts     sizes_text(sizes)                   NoSizes                        [((3, 4),)]
texts     lot_text(lot)                       NoLot                          [((0, 39),)]
texts     strip_read(text)                    NoText                         [("01",)]
texts     draft_read(text)                    NoText                         [("0.1",)]
texts     sizes_read(text)                    NoText                         [("3,4",)]
texts     lot_read(text)                      NoText                         [("0,39",)]
"""

# What is none of all that is told of: no strip, sizes, draft, number, place, hue, paper, lot, ring, stand or text.
THOUSAND = [[0] * 999, ["none"] * 999, (True,) * 999, {f"{at}": at for at in range(999)}, {at: [at] for at in range(499)}]
NOTHING = [
    None, True, False, "", "x" * 60, [], [0], {}, {"0": 0}, {0: 0}, (None,), (True,), ((),), ([],), BIG, -BIG, (BIG,),
    (0,) * 999, ((0, 1), [2, {"a": (3, "b")}]), ("row", True, 1), ("cases", 0, ()),
] + DEEP + THOUSAND


def functions():
    """Each function with its argument names, the classes that it is refused with, and arguments."""
    told = []
    for row in INTERFACE.strip().split("\n"):
        head, _, rest = row.partition(")")
        module, _, named = head.partition(" ")
        name, _, names = named.strip().partition("(")
        classes, _, samples = rest.partition("[")
        call = getattr(importlib.import_module("evenhues." + module), name)
        told.append((call, names.split(", "), classes.split(), eval("[" + samples)))
    return told


class Interface(unittest.TestCase):

    def test_names_and_arguments(self):
        self.assertEqual(len(functions()), 93)
        for call, names, classes, samples in functions():
            self.assertEqual(list(inspect.signature(call).parameters), names, call.__name__)
            self.assertEqual(len(classes), len(names), call.__name__)
            self.assertTrue(samples)

    def test_the_desk(self):
        self.assertEqual(list(inspect.signature(Desk).parameters), [])
        self.assertEqual(list(inspect.signature(Desk().say).parameters), ["row"])

    def test_each_class_stands_straight_under_hue_error(self):
        self.assertEqual(errors.HueError.__bases__, (ValueError,))
        named = {name for _, _, classes, _ in functions() for name in classes if name != "-"}
        for name in named | {"NoFit", "NoRound", "NoDeed", "NoLine", "TooGreat"}:
            self.assertEqual(getattr(errors, name).__bases__, (errors.HueError,), name)


class Answers(Told, unittest.TestCase):

    def test_what_is_handed_in_is_unchanged_and_what_is_told_is_the_askers_own(self):
        for call, _, _, samples in functions():
            for args in samples:
                self.ask(call, *args)

    def test_no_answer_has_a_list_or_dict_in_common_with_another_one(self):
        for call, _, _, samples in functions():
            for args in samples:
                one, other = call(*args), call(*args)
                kept = copy.deepcopy(other)
                spoil(one)
                self.assertTrue(same_kind(other, kept), call.__name__)

    def test_of_anything_it_is_told_true_or_false(self):
        many = 0
        for call, _, classes, samples in functions():
            if classes[-1] == "-":
                many += 1
                for thing in NOTHING:
                    args = samples[0][:-1] + (thing,)
                    # [] is reasons of each draft; all else here is nothing at all.
                    self.told(call.__name__ == "are_reasons" and thing == [], call, *args)
        self.assertEqual(many, 10)

    def test_what_was_told_may_be_handed_in_again(self):
        told = {call.__name__: call for call, _, _, _ in functions()}
        draft = (0, 0, 1, 1, -1, -1, -1, 0, 0, 1, 1, -1, -1)
        paper = told["paper_for"]((3, 3), draft)
        self.told(True, told["is_paper"], (3, 3), draft, paper)
        self.told(told["leaves"]((3, 3), draft, paper), told["leaves"], (3, 3), draft, paper)
        self.told(True, told["are_reasons"], (3, 3), draft, told["reasons_for"]((3, 3), draft))
        plan = told["hold_plan"](8, (0,) * 8, 2)
        self.assertGreater(len(plan), 100)
        self.told(True, told["holds_by"], 8, (0,) * 8, 2, plan)
        text = told["lot_text"](tuple(range(40)))
        self.assertGreater(len(text), 60)
        self.told(tuple(range(40)), told["lot_read"], text)


class Refused(Told, unittest.TestCase):

    def test_what_stands_further_to_the_left_is_looked_at_first(self):
        for call, _, classes, samples in functions():
            args = samples[0]
            for place, name in enumerate(classes):
                if name != "-":
                    for thing in NOTHING:
                        for rest in [args[place + 1:], (None,) * (len(args) - place - 1), (thing,) * (len(args) - place - 1)]:
                            self.refused(getattr(errors, name), call, *args[:place], thing, *rest)

    def test_a_desk_refuses_what_is_no_row(self):
        desk = Desk()
        desk.say("more 3")
        for thing in NOTHING:
            self.refused(errors.NoLine, desk.say, thing)
        self.assertEqual(desk.say("draft"), "...")


if __name__ == "__main__":
    unittest.main()
