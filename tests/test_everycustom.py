"""[8.8], [8.9], [8.10]: customs that are alike, or kinder, on all lands."""

import hashlib
import random
import sys
import unittest

from helpers import FORK, PAIR, RING, ROW, VEE, caught, some_counted, some_deeds, tuples_only
from landways.comparing import Unlike, are_alike, compare_customs
from landways.counted import Counted, counteds
from landways.customs import CLAUSES, Custom, custom_at, customs, words
from landways.everycustom import (OnAllLands, alike_customs, are_alike_everywhere, compare_everywhere, custom_classes,
                                  idle_everywhere, kinder_everywhere, trial_lands)
from landways.everyland import on_all_lands
from landways.kinder import Kinder, Unkind, compare_kindness, is_kinder
from landways.lands import Land
from landways.landforms import all_lands
from landways.twinruns import TwinRun
from landways.twinviews import MEASURES, twin_seen, twin_start, twin_steps
from test_comparing import check_unlike, neighbour
from test_twinviews import NO_MEASURES

A = Land(2, [(0, 1)], [1])
B = Land(3, [(0, 1), (1, 2)], [2])
C = Land(3, [(0, 1), (0, 2)], [1, 2])
D = Land(4, [(0, 1), (0, 2), (2, 3)], [1, 3])
TURNED = Custom("stay", "die", "need", "beside", "never")
EXAMPLE = Custom("stay", "die", "beside", "need", "never")
TOLD = Counted(untold=False)
# What repr tells of the lists of classes for all eight Counteds and, for each, all three measures, as a SHA-256.
ALL_CLASSES = "4f0f28e95a19873fa518f28edebdba3940fe0af1366070695063f505edeeaf2a"


def untold_told_again(one, other, counted):
    """What the rule of [8.8] says of the clause untold, for standings."""
    both = {one.untold, other.untold}
    need = "need" in (one.sold, one.kept)
    awake = (counted.grants or not {"all", "beside"}.isdisjoint({one.sold, one.kept}) or (need and one.joined == "sleep"))
    return (len(both) == 1 or not counted.untold or (both == {"stay", "die"} and not awake and not need)
            or (both == {"stay", "needed stay"} and not awake) or (both == {"die", "needed stay"} and not need))


def passing_told_again(one, other, counted):
    """The rule of [8.8] by "passing", for customs with the same sold and kept."""
    sides = (one.sold, one.kept)
    same_untold = one.untold == other.untold or not counted.untold
    if "need" in sides:
        awake = counted.grants or "all" in sides or "beside" in sides or one.joined == "sleep"
        staying = {one.untold, other.untold} == {"stay", "needed stay"} and not awake
        return one.joined == other.joined and one.ends == other.ends and (same_untold or staying)
    joined = (one.joined == other.joined or sides == ("all", "all")
              or (not counted.grants and sides in (("none", "none"), ("beside", "beside"))))
    stand = counted.grants or "all" in sides or "beside" in sides
    return joined and (same_untold or "stay" not in (one.untold, other.untold) or not stand)


def alike_told_again(one, other, counted, measure):
    """The rule of [8.8] for two customs, point by point."""
    sides = (one.sold, one.kept)
    if measure == "open" and on_all_lands(one, counted).nowhere and on_all_lands(other, counted).nowhere:
        return True
    if sides != (other.sold, other.kept):
        return False
    if measure != "standing":
        return passing_told_again(one, other, counted)
    stand = counted.grants or sides != ("none", "none")
    return ((one.ends == other.ends or "need" not in sides) and (one.joined == other.joined or not stand)
            and untold_told_again(one, other, counted))


def many_calls(ask):
    """How many functions and methods, Python's own among them, are called by this one."""
    calls = []

    def note(frame, event, thing):
        if event in ("call", "c_call"):
            calls.append(event)

    before = sys.getprofile()
    sys.setprofile(note)
    try:
        ask()
    finally:
        sys.setprofile(before)
    return len(calls)


def alike_on_small_lands(one, other, counted, measure):
    return all(are_alike(land, one, other, counted, measure=measure) for land in (A, B, C))


def only_told_apart_on_four_cells(one, other, counted):
    """Whether, by "open", no run on lands of two and three cells tells apart two customs that the rule tells apart."""
    return not are_alike_everywhere(one, other, counted, measure="open") and alike_on_small_lands(one, other, counted, "open")


def differing_on_four_cells(one, other, counted, cell):
    """Whether the cell of D is ever open under one custom alone, by a walk over all twin views."""
    start = twin_start(D, cell)
    known, queue = {start.numbers}, [start]
    while queue:
        ahead = queue.pop()
        for step in twin_steps(one, other, ahead, counted):
            behind = twin_seen(one, other, ahead, step)
            if behind.differs("open"):
                return True
            if behind.numbers not in known:
                known.add(behind.numbers)
                queue.append(behind)
    return False


class TrialLands(unittest.TestCase):

    def test_each_measure(self):
        self.assertEqual(trial_lands("standing"), (A, B, C))
        self.assertEqual(trial_lands("passing"), (A, B, C))
        self.assertEqual(trial_lands("open"), (A, B, C, D))

    def test_what_is_no_measure(self):
        for thing in NO_MEASURES:
            for ask in (lambda: trial_lands(thing), lambda: compare_everywhere(TURNED, TURNED, measure=thing),
                        lambda: are_alike_everywhere(TURNED, EXAMPLE, measure=thing),
                        lambda: alike_customs(TURNED, measure=thing), lambda: list(custom_classes(measure=thing)),
                        lambda: idle_everywhere(TURNED, measure=thing)):
                self.assertEqual(caught(ask), ("BadMeasure", thing))


class Rule(unittest.TestCase):

    def check(self, one, other, counted):
        for measure in MEASURES:
            told = are_alike_everywhere(one, other, counted, measure=measure)
            alike = alike_on_small_lands(one, other, counted, measure)
            case = (one.row, other.row, vars(counted), measure)
            if measure == "open" and alike and not told:
                # D is wanted for ends alone, with "need" on one side and "beside" on the other.
                self.assertEqual({one.sold, one.kept}, {"need", "beside"}, case)
                self.assertEqual((one.sold, one.kept), (other.sold, other.kept), case)
                self.assertNotEqual(one.ends, other.ends, case)
                self.assertTrue(any(differing_on_four_cells(one, other, counted, cell) for cell in range(4)))
            else:
                self.assertIs(told, alike, case)

    def test_drawn_pairs_that_are_near(self):
        source = random.Random(371)
        for _ in range(500):
            one = custom_at(source.randrange(192))
            self.check(one, neighbour(source, one), some_counted(source))

    def test_drawn_pairs_of_the_same_sides(self):
        source = random.Random(372)
        for _ in range(300):
            one, other = custom_at(source.randrange(192)), custom_at(source.randrange(192))
            self.check(one, other.changed("sold", one.sold).changed("kept", one.kept), some_counted(source))

    def test_drawn_pairs(self):
        source = random.Random(373)
        for _ in range(100):
            self.check(custom_at(source.randrange(192)), custom_at(source.randrange(192)), some_counted(source))

    def test_each_word_against_each_other_one(self):
        # Each two words of a clause, with each two words of sold and kept, and all sorts of counted deeds.
        source = random.Random(374)
        for sold in words("sold"):
            for kept in words("kept"):
                one = Custom(source.choice(words("untold")), source.choice(words("joined")), sold, kept,
                             source.choice(words("ends")))
                for clause in CLAUSES:
                    for word in words(clause):
                        self.check(one, one.changed(clause, word), some_counted(source))

    def test_untold_rights_where_none_is_ever_awake(self):
        for sold, kept in (("need", "need"), ("need", "none"), ("none", "need"), ("none", "none")):
            for joined in words("joined"):
                one = Custom("stay", joined, sold, kept, "never")
                for first, second in (("stay", "die"), ("stay", "needed stay"), ("die", "needed stay")):
                    for counted in (Counted(grants=False), Counted(False, True, True), Counted(False, False, True)):
                        self.check(one.changed("untold", first), one.changed("untold", second), counted)

    def test_untold_rights_by_hand(self):
        one, counted = Custom("stay", "die", "need", "need", "never"), Counted(grants=False)
        for first, second, expected in [("stay", "die", [False] * 3), ("stay", "needed stay", [True] * 3),
                                        ("die", "needed stay", [False] * 3), ("needed stay", "stay", [True] * 3)]:
            told = [are_alike_everywhere(one.changed("untold", first), one.changed("untold", second), counted, measure=measure)
                    for measure in MEASURES]
            self.assertEqual(told, expected)
            sleepy = one.changed("joined", "sleep")
            self.assertIs(are_alike_everywhere(sleepy.changed("untold", first), sleepy.changed("untold", second), counted), False)

    def test_nowhere_is_alike_by_open(self):
        for counted in counteds():
            none = [custom for custom in customs() if on_all_lands(custom, counted).nowhere]
            for one in none[::5]:
                for other in none[::7]:
                    self.assertIs(are_alike_everywhere(one, other, counted, measure="open"), True)

    def test_drawn_runs_on_larger_lands(self):
        source = random.Random(375)
        for _ in range(700):
            one = custom_at(source.randrange(192))
            other, counted = neighbour(source, one), Counted(True, source.choice([True, False]), True)
            land = source.choice((FORK, RING, D, Land(5, [(0, 1), (1, 2), (2, 3), (3, 4), (0, 4)], [1, 3])))
            run = TwinRun(land, one, other, some_deeds(source, land, one, 6))
            if run.is_counted(counted):
                for measure in MEASURES:
                    if are_alike_everywhere(one, other, counted, measure=measure):
                        self.assertIsNone(run.differs_at(measure))


class Everywhere(unittest.TestCase):

    def check(self, one, other, counted, measure):
        told = compare_everywhere(one, other, counted, measure=measure)
        if are_alike_everywhere(one, other, counted, measure=measure):
            self.assertIsInstance(told, OnAllLands)
            self.assertEqual((told.one, told.other, told.counted, told.measure), (one, other, counted, measure))
        else:
            self.assertIn(told.run.land, (A, B, C, D))
            check_unlike(self, told, told.run.land, one, other, counted, measure)
        return told

    def test_drawn_pairs(self):
        source = random.Random(376)
        for _ in range(150):
            one = custom_at(source.randrange(192))
            for measure in MEASURES:
                self.check(one, neighbour(source, one), some_counted(source), measure)

    def test_the_example(self):
        self.assertEqual((TURNED.row, EXAMPLE.row), (("stay", "die", "need", "beside", "never"),
                                                     ("stay", "die", "beside", "need", "never")))
        for one in (TURNED, EXAMPLE):
            other = one.changed("ends", "free")
            for land in [*all_lands(2), *all_lands(3)]:
                self.assertIs(are_alike(land, one, other, TOLD, measure="open"), True)
            told = self.check(one, other, TOLD, "open")
            self.assertEqual((told.run.land, told.cell), (D, 0))

    def test_the_runs_of_the_example(self):
        deeds = [("goes", [0], 1, []), ("goes", [2, 3], 1, []), ("goes", [3], 2, [])]
        run = TwinRun(D, TURNED, TURNED.changed("ends", "free"), deeds)
        self.assertEqual([run.first.state_at(many).standing(0, 1) for many in range(4)],
                         ["none", "needed", "needed", "needed"])
        self.assertEqual([run.second.state_at(many).standing(0, 1) for many in range(4)],
                         ["none", "needed", "none", "none"])
        self.assertEqual((run.first.state.standing(0, 3), run.differs_at("open"), run.differing("open")), ("none", 3, (0,)))
        self.assertIs(run.is_counted(TOLD), True)
        deeds = [("goes", [1, 2, 3], 1, []), ("goes", [2, 3], 0, []), ("goes", [0, 2], 2, [(1, 0)])]
        run = TwinRun(D, EXAMPLE, EXAMPLE.changed("ends", "free"), deeds)
        self.assertEqual((run.differs_at("open"), run.differing("open")), (3, (0,)))
        self.assertIs(run.is_counted(TOLD), True)

    def test_all_that_four_cells_alone_tell_apart(self):
        sides = [custom for custom in customs() if {custom.sold, custom.kept} == {"need", "beside"}]
        found = 0
        for one in sides:
            for other in sides:
                if (one.sold, one.kept) == (other.sold, other.kept) and one.number < other.number:
                    for counted in counteds():
                        if only_told_apart_on_four_cells(one, other, counted):
                            self.assertEqual(self.check(one, other, counted, "open").run.land, D)
                            found += 1
        self.assertEqual(found, 80)

    def test_measure_and_counted_left_out_none_by_place_and_by_name(self):
        one = Custom("stay", "die", "all", "all", "never")
        other = one.changed("ends", "free")
        for told in (compare_everywhere(one, other), compare_everywhere(one, other, None),
                     compare_everywhere(one=one, other=other, counted=None, measure="standing")):
            self.assertEqual((told.counted, told.measure), (Counted(), "standing"))
        sleepy = one.changed("joined", "sleep")
        self.assertIs(are_alike_everywhere(one, sleepy), False)
        self.assertIs(are_alike_everywhere(one, sleepy, None, measure="passing"), True)
        self.assertIs(are_alike_everywhere(one=one, other=sleepy, counted=None, measure="open"), True)
        check_unlike(self, compare_everywhere(one, sleepy), A, one, sleepy, Counted(), "standing")
        with self.assertRaises(TypeError):
            compare_everywhere(one, sleepy, None, "open")

    def test_results_keep_what_they_are_passed(self):
        self.assertEqual(vars(OnAllLands(1, 2, 3, 4)), {"one": 1, "other": 2, "counted": 3, "measure": 4})


class ClassesOfCustoms(unittest.TestCase):

    def test_the_numbers_of_the_example(self):
        for measure, many in (("standing", 120), ("passing", 118), ("open", 106)):
            self.assertEqual(len(list(custom_classes(measure=measure))), many)
            self.assertEqual(len(list(custom_classes(Counted(), measure=measure))), many)

    def test_each_custom_in_one_class(self):
        for counted in counteds():
            for measure in MEASURES:
                told = list(custom_classes(counted, measure=measure))
                self.assertEqual(sorted(number for one in told for number in one), list(range(192)))
                self.assertEqual([one[0] for one in told], sorted(one[0] for one in told))
                self.assertTrue(tuples_only(tuple(told)))
                self.assertTrue(all(list(one) == sorted(one) for one in told))

    def test_alike_customs_are_the_class(self):
        for counted in counteds():
            for measure in MEASURES:
                for one in custom_classes(counted, measure=measure):
                    for number in one:
                        self.assertEqual(alike_customs(custom_at(number), counted, measure=measure), one)

    def test_all_against_the_rule_told_again(self):
        every = list(customs())
        for counted in counteds():
            for measure in MEASURES:
                case = (vars(counted), measure)
                rows = [tuple(other.number for other in every if alike_told_again(one, other, counted, measure)) for one in every]
                self.assertEqual([alike_customs(one, counted, measure=measure) for one in every], rows, case)
                self.assertEqual(list(custom_classes(counted, measure=measure)),
                                 [row for number, row in enumerate(rows) if row[0] == number], case)
                for one in every[::3]:
                    told = tuple(other.number for other in every if are_alike_everywhere(one, other, counted, measure=measure))
                    self.assertEqual(told, rows[one.number], case)

    def test_all_lists_of_classes_together(self):
        told = [[list(custom_classes(counted, measure=measure)) for measure in MEASURES] for counted in counteds()]
        self.assertEqual(hashlib.sha256(repr(told).encode()).hexdigest(), ALL_CLASSES)

    def test_what_is_nowhere_shut_off_is_one_class_by_open(self):
        # "stay" with "all" or "need" on both sides; where nothing goes untold, every word of untold.
        kind = [custom.number for custom in customs() if {custom.sold, custom.kept} <= {"all", "need"}]
        staying = tuple(number for number in kind if custom_at(number).untold == "stay")
        self.assertEqual((len(kind), staying), (48, (10, 11, 14, 15, 26, 27, 30, 31, 42, 43, 46, 47, 58, 59, 62, 63)))
        self.assertIn(staying, list(custom_classes(measure="open")))
        self.assertEqual([alike_customs(custom_at(number), measure="open") for number in staying], [staying] * 16)
        self.assertIn(tuple(kind), list(custom_classes(TOLD, measure="open")))
        self.assertEqual([alike_customs(custom_at(number), TOLD, measure="open") for number in kind], [tuple(kind)] * 48)
        # Without grants a needed right can be awake only where it slept.
        bare = Counted(grants=False)
        more = [number for number in kind if custom_at(number).row[:4] == ("needed stay", "die", "need", "need")]
        self.assertEqual(alike_customs(custom_at(10), bare, measure="open"), staying + tuple(more))
        # Where rights are given up, each cell can be shut off, and no custom is alike to all of these.
        self.assertEqual(len(alike_customs(custom_at(10), Counted(giving_up=True), measure="open")), 4)

    def test_what_is_told_is_new(self):
        for measure in MEASURES:
            for one, other in zip(list(custom_classes(TOLD, measure=measure)), list(custom_classes(TOLD, measure=measure))):
                self.assertEqual(one, other)
                self.assertIsNot(one, other)
                custom = custom_at(one[0])
                self.assertIsNot(alike_customs(custom, TOLD, measure=measure), alike_customs(custom, TOLD, measure=measure))

    def test_classes_are_told_one_by_one(self):
        told = custom_classes(TOLD, measure="open")
        first = next(told)
        self.assertEqual([first, *told], list(custom_classes(TOLD, measure="open")))

    def test_they_are_told_without_asking_each_pair(self):
        # There are 192 customs and 18336 pairs of them. Calls are counted, since no clock counts alike each time.
        for counted in counteds():
            for measure in MEASURES:
                self.assertLess(many_calls(lambda: list(custom_classes(counted, measure=measure))), 50 * 192)
                for custom in list(customs())[::5]:
                    self.assertLess(many_calls(lambda: alike_customs(custom, counted, measure=measure)), 6 * 192)

    def test_a_custom_alone_and_one_with_many(self):
        one = Custom("needed stay", "sleep", "need", "need", "free")
        self.assertEqual(alike_customs(one), (one.number,))
        bare = Custom("stay", "die", "none", "none", "never")
        self.assertEqual(len(alike_customs(bare, Counted(False, False, False))), 12)
        self.assertEqual(len(alike_customs(bare)), 2)
        self.assertEqual(len(alike_customs(Custom("stay", "die", "all", "all", "never"), measure="open")), 16)

    def test_against_each_custom(self):
        source = random.Random(377)
        for _ in range(20):
            custom, counted = custom_at(source.randrange(192)), some_counted(source)
            for measure in MEASURES:
                expected = tuple(other.number for other in customs()
                                 if are_alike_everywhere(custom, other, counted, measure=measure))
                self.assertEqual(alike_customs(custom, counted, measure=measure), expected)
                idle = tuple(clause for clause in CLAUSES
                             if {custom.changed(clause, word).number for word in words(clause)} <= set(expected))
                self.assertEqual(idle_everywhere(custom, counted, measure=measure), idle)

    def test_idle_clauses_by_hand(self):
        bare = Custom("stay", "die", "none", "none", "never")
        self.assertEqual(idle_everywhere(bare), ("ends",))
        self.assertEqual(idle_everywhere(bare, Counted(False, False, False)), ("untold", "joined", "ends"))
        kind = Custom("stay", "die", "all", "all", "never")
        self.assertEqual(idle_everywhere(kind, TOLD, measure="passing"), ("untold", "joined", "ends"))

    def test_counted_left_out_none_by_place_and_by_name(self):
        kind = Custom("stay", "die", "all", "all", "never")
        for told in (alike_customs(kind), alike_customs(kind, None), alike_customs(custom=kind, counted=None, measure="standing")):
            self.assertEqual(told, alike_customs(kind, Counted()))
        for told in (idle_everywhere(kind), idle_everywhere(kind, None), idle_everywhere(custom=kind, counted=None)):
            self.assertEqual(told, ("ends",))
        self.assertEqual(list(custom_classes(None)), list(custom_classes(counted=Counted(), measure="standing")))


class KinderEverywhere(unittest.TestCase):

    def plain_customs(self):
        return [custom for custom in customs() if not custom.uses("need")]

    def test_drawn_pairs_against_the_lands_of_three_cells(self):
        source = random.Random(378)
        plain = self.plain_customs()
        lands = list(all_lands(3))
        for k in range(120):
            one = source.choice(plain)
            other, counted = neighbour(source, one), some_counted(source)
            if other.uses("need"):
                continue
            told = kinder_everywhere(one, other, counted)
            kinder = isinstance(told, Kinder)
            self.assertIs(kinder, is_kinder(B, one, other, counted))
            # Where all cells are neighbours a land tells what A tells, else what B tells.
            for land in (A, lands[k % 6]):
                whole = len(land.neighbours) * 2 == land.cells * (land.cells - 1)
                self.assertIs(is_kinder(land, one, other, counted), is_kinder(A if whole else B, one, other, counted))
                if kinder:
                    self.assertIs(is_kinder(land, one, other, counted), True)
                for measure in MEASURES[:2]:
                    self.assertIs(are_alike(land, one, other, counted, measure=measure),
                                  are_alike(A if whole else B, one, other, counted, measure=measure))

    def test_drawn_runs_on_larger_lands(self):
        source = random.Random(379)
        plain = self.plain_customs()
        for k in range(250):
            one = source.choice(plain)
            other = neighbour(source, one)
            if other.uses("need") or isinstance(kinder_everywhere(one, other, Counted(True, True, True)), Unkind):
                continue
            land = (FORK, RING, D, VEE)[k % 4]
            run = TwinRun(land, one, other, some_deeds(source, land, one, 7))
            for cell in range(land.cells):
                self.assertEqual([twin.surplus for twin in run.twins(cell)], [()] * (len(run) + 1))

    def test_results(self):
        bare, kind = Custom("stay", "die", "none", "none", "never"), Custom("stay", "die", "all", "all", "never")
        told = kinder_everywhere(bare, kind)
        self.assertEqual([(table.land, table.counted) for table in told.tables], [(B, Counted())] * 3)
        told = kinder_everywhere(kind, bare, None)
        self.assertEqual(told.run.land, B)
        self.assertIn(told.over, told.run.twin(told.cell).surplus)
        self.assertEqual(kinder_everywhere(one=bare, other=kind, counted=TOLD).tables[0].counted, TOLD)
        beside = kind.changed("sold", "beside").changed("kept", "beside")
        self.assertIsInstance(kinder_everywhere(kind, beside), Unkind)
        self.assertIsInstance(compare_kindness(A, kind, beside), Kinder)

    def test_what_is_wrong(self):
        kind = Custom("stay", "die", "all", "all", "never")
        for first, second, word in [(("need", "need"), ("all", "all"), "sold"), (("all", "need"), ("need", "all"), "kept"),
                                    (("all", "all"), ("need", "need"), "sold"), (("all", "none"), ("beside", "need"), "kept")]:
            one = kind.changed("sold", first[0]).changed("kept", first[1])
            other = kind.changed("sold", second[0]).changed("kept", second[1])
            self.assertEqual(caught(lambda: kinder_everywhere(one, other)), ("NeedsLand", word))


class Why(unittest.TestCase):
    """[8.10]: where standings first differ."""

    def test_one_deed_tells_any_two_words_of_sold_or_kept_apart(self):
        for clause in ("sold", "kept"):
            for one in list(customs())[::5]:
                for word in words(clause):
                    if word != one.word(clause):
                        told = [compare_customs(land, one, one.changed(clause, word), Counted(False, False, False))
                                for land in (A, B, C)]
                        self.assertEqual(min(len(one.run) for one in told if isinstance(one, Unlike)), 1)

    def test_an_end_on_the_land_with_two_roads(self):
        one = Custom("stay", "die", "need", "need", "never")
        for land, alike in ((A, True), (ROW, True), (PAIR, True), (C, False)):
            self.assertIs(are_alike(land, one, one.changed("ends", "free"), Counted(False, False, False)), alike)
