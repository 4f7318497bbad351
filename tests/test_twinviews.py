"""[8.1], [8.2]: twin views, and their steps."""

import random
import unittest

from helpers import (FORK, NO_NUMBERS, PAIR, RING, ROW, VEE, caught, look, some_counted, some_deeds, subsets, tuples_only)
from landways.counted import Counted, counteds
from landways.customs import Custom, custom_at
from landways.listing import plain_step, plain_steps
from landways.seeing import see_step, step_of
from landways.steps import Come, Give, Go, Grant, Leave, Step
from landways.twinruns import TwinRun
from landways.twinviews import MEASURES, TwinView, twin_seen, twin_start, twin_steps
from landways.views import View, all_views, start_view, view_at

EVERYTHING = Counted(True, True, True)
NO_MEASURES = (None, True, 0, "", "Standing", "shut", "open ", ["open"], ("open",), {}, object())
RIGHTS = ("awake", "needed")


def twin_views(land, cell):
    """All pairs of views of the cell with the same own cells."""
    views = list(all_views(land, cell))
    return [(one, other) for one in views for other in views if one.own == other.own]


def drawn_twins(source, many, lands=(PAIR, ROW, VEE, FORK, RING)):
    """Twin views of drawn numbers."""
    while many:
        land = source.choice(lands)
        cell = source.randrange(land.cells)
        one = view_at(land, cell, source.randrange(5 ** (land.cells - 1)))
        standings = ["none" if b == cell else source.choice(["none", "asleep"] if b in one.own else
                                                            ["none", "awake", "needed"]) for b in range(land.cells)]
        yield TwinView(one, View(land, cell, one.own, standings))
        many -= 1


class TwinViews(unittest.TestCase):

    def test_attributes(self):
        for land in (PAIR, ROW):
            for cell in range(land.cells):
                pairs = twin_views(land, cell)
                self.assertEqual(len(pairs), 13 ** (land.cells - 1))
                for one, other in pairs:
                    twin = TwinView(one, other)
                    self.assertEqual((twin.one, twin.other, twin.land, twin.cell, twin.own),
                                     (one, other, land, cell, one.own))
                    self.assertEqual(twin.numbers, (one.number, other.number))
                    self.assertEqual(twin.surplus, tuple(sorted(set(one.passing()) - set(other.passing()))))
                    self.assertTrue(tuples_only((twin.own, twin.numbers, twin.surplus)))
                    self.assertTrue({"one", "other", "land", "cell", "own", "numbers"} <= set(vars(twin)))

    def test_attributes_by_name(self):
        self.assertEqual(TwinView(other=look(ROW, "2: a."), one=look(ROW, "2: .n")).surplus, (1,))

    def test_turned(self):
        for one, other in twin_views(ROW, 1):
            turned = TwinView(one, other).turned()
            self.assertEqual((turned.one, turned.other), (other, one))
            self.assertEqual(turned, TwinView(other, one))
            self.assertEqual(turned.turned(), TwinView(one, other))

    def test_equal_twin_views(self):
        pairs = twin_views(PAIR, 0)
        for one in pairs:
            for other in pairs:
                self.assertIs(TwinView(*one) == TwinView(*other), one == other)
        one, other = start_view(ROW, 2), view_at(ROW, 2, 1)
        self.assertNotEqual(TwinView(one, other), TwinView(other, one))
        self.assertNotEqual(TwinView(one, one), one)
        self.assertNotEqual(TwinView(one, one), (one, one))
        self.assertNotEqual(twin_start(ROW, 2), twin_start(ROW, 1))

    def test_what_is_wrong(self):
        view = start_view(ROW, 2)
        for thing in (None, True, 0, "2: oo", (), (2, 0), object(), twin_start(ROW, 2)):
            self.assertEqual(caught(lambda: TwinView(thing, view)), ("BadTwin", "views"))
            self.assertEqual(caught(lambda: TwinView(view, thing)), ("BadTwin", "views"))
        self.assertEqual(caught(lambda: TwinView(view, start_view(VEE, 1))), ("BadTwin", "land"))
        self.assertEqual(caught(lambda: TwinView(view, start_view(PAIR, 1))), ("BadTwin", "land"))
        self.assertEqual(caught(lambda: TwinView(view, look(ROW, "1: .."))), ("BadTwin", "cell"))
        self.assertEqual(caught(lambda: TwinView(view, look(ROW, "2: o."))), ("BadTwin", "own"))
        self.assertEqual(caught(lambda: TwinView(look(ROW, "2: as"), look(ROW, "2: oa"))), ("BadTwin", "own"))

    def test_equal_lands_and_own_cells_are_enough(self):
        again = View(type(ROW)(3, [[1, 0], [2, 1]], [0]), 2, [2, 1], ["none", "asleep", "none"])
        self.assertEqual(TwinView(look(ROW, "2: .o"), again).numbers, (10, 11))


class Differing(unittest.TestCase):

    def test_the_words(self):
        self.assertEqual(MEASURES, ("standing", "passing", "open"))

    def test_each_measure(self):
        for land, cell in ((PAIR, 0), (PAIR, 1), (ROW, 0), (ROW, 2), (VEE, 0)):
            for one, other in twin_views(land, cell):
                twin = TwinView(one, other)
                told = [twin.differs(measure) for measure in MEASURES]
                self.assertEqual(told, [one != other, one.passing() != other.passing(), one.is_open() != other.is_open()])
                # What differs by a measure differs by those ahead of it.
                self.assertEqual(told, sorted(told, reverse=True))

    def test_some_by_hand(self):
        for first, second, expected in [("2: aa", "2: nn", (True, False, False)), ("2: oo", "2: so", (True, False, False)),
                                        ("2: a.", "2: ..", (True, True, False)), ("2: aa", "2: .a", (True, True, True)),
                                        ("2: .a", "2: .a", (False, False, False))]:
            twin = TwinView(look(ROW, first), look(ROW, second))
            self.assertEqual(tuple(twin.differs(measure) for measure in MEASURES), expected)

    def test_what_is_no_measure(self):
        for twin in (twin_start(ROW, 2), TwinView(look(ROW, "2: aa"), look(ROW, "2: .."))):
            for thing in NO_MEASURES:
                self.assertEqual(caught(lambda: twin.differs(thing)), ("BadMeasure", thing))


class Seen(unittest.TestCase):

    def test_start(self):
        for land in (PAIR, ROW, RING):
            for cell in range(land.cells):
                twin = twin_start(land, cell)
                self.assertEqual((twin.one, twin.other), (start_view(land, cell), start_view(land, cell)))
                self.assertEqual((twin.numbers, twin.surplus), ((0, 0), ()))
        for thing in (-1, 3, *NO_NUMBERS):
            self.assertEqual(caught(lambda: twin_start(ROW, thing)), ("BadCell", thing))

    def test_each_view_by_its_own_custom(self):
        source = random.Random(311)
        for twin in drawn_twins(source, 150):
            one, other = custom_at(source.randrange(192)), custom_at(source.randrange(192))
            for step in twin_steps(one, other, twin, EVERYTHING):
                behind = twin_seen(one, other, twin, step)
                self.assertEqual((behind.one, behind.other),
                                 (see_step(one, twin.one, step), see_step(other, twin.other, step)))

    def test_what_is_wrong(self):
        one, other = custom_at(3), custom_at(100)
        twin = TwinView(look(ROW, "2: .s"), look(ROW, "2: ao"))
        for step, word in [(None, "step"), ("come", "step"), (("leave", (1,)), "step"), (Leave([0]), "cells"),
                           (Leave([2]), "cells"), (Come([1]), "cells"), (Come([2]), "cells"), (Go([1]), "cells"),
                           (Go([2, 0]), "cells"), (Go([2], [1]), "others"), (Leave([], [1]), "others"),
                           (Leave([0], [1]), "cells"), (Grant([1]), "cells"), (Give([2]), "cells")]:
            self.assertEqual(caught(lambda: twin_seen(one, other, twin, step)), ("BadStep", word))


def steps_told_again(one, other, twin, counted):
    """All steps of [8.2] in their order, from its words."""
    first, second = twin.one, twin.other
    mates = [b for b in first.own if b != first.cell]
    outside = [b for b in range(first.land.cells) if b not in first.own]
    dying = {"stay": (), "die": RIGHTS, "needed stay": ("awake",)}
    mortal = [b for b in outside if first.standings[b] in dying[one.untold] or second.standings[b] in dying[other.untold]]
    rows = [Leave(lot, untold) for lot in subsets(mates) for untold in (subsets(mortal) if counted.untold else [()])
            if lot or untold]
    rows += [Come(lot) for lot in subsets(outside)[1:]]
    rows += [Go(sorted([first.cell, *lot]), held) for lot in subsets(mates) if len(lot) < len(mates)
             for held in subsets(outside)]
    if counted.grants:
        rows += [Grant(lot) for lot in
                 subsets(b for b in outside if {first.standings[b], second.standings[b]} != {"awake"})[1:]]
    if counted.giving_up:
        rows += [Give(lot) for lot in
                 subsets(b for b in outside if {first.standings[b], second.standings[b]} & set(RIGHTS))[1:]]
    return rows


class Steps(unittest.TestCase):

    def test_as_told_in_their_order(self):
        source = random.Random(312)
        for twin in drawn_twins(source, 400):
            one, other, counted = custom_at(source.randrange(192)), custom_at(source.randrange(192)), some_counted(source)
            told = list(twin_steps(one, other, twin, counted))
            self.assertEqual(told, steps_told_again(one, other, twin, counted))
            kinds = ["leave", "come", "go", "grant", "give"]
            keys = [(kinds.index(step.kind), len(step.cells), step.cells, len(step.others), step.others) for step in told]
            self.assertEqual(keys, sorted(set(keys)))
            self.assertTrue(all(isinstance(step, Step) for step in told))

    def test_each_word_of_untold_in_each_view(self):
        kind = Custom("stay", "die", "all", "all", "never")
        twin = TwinView(look(ROW, "2: na"), look(ROW, "2: .n"))
        for first, second, expected in [("stay", "stay", []), ("die", "stay", [(0,), (1,), (0, 1)]),
                                        ("needed stay", "stay", [(1,)]), ("stay", "needed stay", []),
                                        ("stay", "die", [(1,)]), ("needed stay", "die", [(1,)])]:
            steps = twin_steps(kind.changed("untold", first), kind.changed("untold", second), twin, Counted(grants=False))
            self.assertEqual([step.others for step in steps if step.kind == "leave"], expected)

    def test_grants_and_givings_up_by_hand(self):
        kind = Custom("stay", "die", "all", "all", "never")
        twin = TwinView(look(RING, "0: na."), look(RING, "0: aan"))
        steps = list(twin_steps(kind, kind, twin, EVERYTHING))
        self.assertEqual([step.cells for step in steps if step.kind == "grant"], [(1,), (3,), (1, 3)])
        self.assertEqual([step.cells for step in steps if step.kind == "give"],
                         [(1,), (2,), (3,), (1, 2), (1, 3), (2, 3), (1, 2, 3)])

    def test_a_twin_view_of_one_view_has_the_plain_steps(self):
        source = random.Random(313)
        for _ in range(100):
            view = view_at(RING, source.randrange(4), source.randrange(125))
            one, counted = custom_at(source.randrange(192)), some_counted(source)
            self.assertEqual(list(twin_steps(one, one, TwinView(view, view), counted)), list(plain_steps(one, view, counted)))

    def test_deeds_of_drawn_runs(self):
        source = random.Random(314)
        for number in range(0, 192, 2):
            land = (PAIR, ROW, VEE, FORK)[number // 2 % 4]
            one, other = custom_at(number), custom_at(source.randrange(192))
            run = TwinRun(land, one, other, some_deeds(source, land, one, 5))
            for cell in range(land.cells):
                self.follow(run, cell)

    def follow(self, run, cell):
        twins = list(run.twins(cell))
        for k, deed in enumerate(run.deeds):
            states = (run.first.state_at(k), run.second.state_at(k))
            step = step_of(states[0], cell, deed)
            self.assertEqual(step, step_of(states[1], cell, deed))
            if step is None:
                self.assertEqual(twins[k], twins[k + 1])
                continue
            self.assertEqual(twin_seen(run.one, run.other, twins[k], step), twins[k + 1])
            plain = [plain_step(run.one, twins[k].one, step), plain_step(run.other, twins[k].other, step)]
            if plain == [None, None]:
                self.assertEqual(twins[k], twins[k + 1])
            for counted in counteds():
                if run.until(k + 1).is_counted(counted) and twins[k] != twins[k + 1]:
                    behind = [twin_seen(run.one, run.other, twins[k], one)
                              for one in twin_steps(run.one, run.other, twins[k], counted)]
                    self.assertIn(twins[k + 1], behind)

    def test_each_leads_to_another_twin_view(self):
        source = random.Random(315)
        for number in range(192):
            land = (PAIR, ROW, VEE)[number % 3]
            one, other = custom_at(number), custom_at(source.randrange(192))
            run = TwinRun(land, one, other, some_deeds(source, land, one, 5))
            for cell in range(land.cells):
                twin = run.twin(cell)
                for step in twin_steps(one, other, twin, EVERYTHING):
                    self.assertNotEqual(twin_seen(one, other, twin, step), twin)
