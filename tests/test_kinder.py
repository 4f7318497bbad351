"""[8.6]: whether one custom is kinder than another on a land."""

import random
import unittest

from helpers import FORK, PAIR, RING, ROW, VEE, caught, some_counted, some_deeds
from landways.comparing import are_alike
from landways.counted import Counted, counteds
from landways.customs import Custom, custom_at, customs
from landways.kinder import Kinder, Unkind, compare_kindness, is_kinder
from landways.lands import Land
from landways.tables import table_behind
from landways.twinruns import TwinRun
from landways.twinviews import twin_start
from landways.verdicts import is_never
from test_comparing import drawn_pairs
from twinwalk import twin_states

BARE = Custom("stay", "die", "none", "none", "never")
KIND = Custom("stay", "die", "all", "all", "never")
NOTHING = Counted(False, False, False)
EVERYTHING = Counted(True, True, True)
FULL = Land(3, [(0, 1), (1, 2), (0, 2)], [2])


class Kindness(unittest.TestCase):

    def check(self, land, one, other, counted):
        told = compare_kindness(land, one, other, counted)
        self.assertIs(is_kinder(land, one, other, counted), isinstance(told, Kinder))
        if isinstance(told, Kinder):
            self.assertEqual([(table.land, table.one, table.other, table.cell, table.counted) for table in told.tables],
                             [(land, one, other, cell, counted) for cell in range(land.cells)])
            for table in told.tables:
                self.assertIn(twin_start(land, table.cell), table)
                self.assertFalse([row for row in table.rows if row[0].surplus])
            self.assertIsInstance(told.tables, tuple)
            return True
        self.assertIsInstance(told, Unkind)
        run = told.run
        self.assertEqual(run, TwinRun(land, one, other, run.deeds))
        self.assertIs(run.is_counted(counted), True)
        for many in range(len(run)):
            self.assertFalse([cell for cell in range(land.cells) if run.until(many).twin(cell).surplus])
        self.assertIn(told.over, run.twin(told.cell).surplus)
        return False

    def test_drawn_pairs(self):
        found = [self.check(*case) for case in drawn_pairs(351, 250)]
        self.assertEqual(set(found), {True, False})

    def test_against_all_counted_deeds(self):
        for k, (_, one, other, counted) in enumerate(drawn_pairs(352, 160)):
            land, counted = (PAIR, counted) if k % 10 else (VEE, NOTHING)
            states = twin_states(land, one, other, counted)
            rights = ("awake", "needed")
            worse = [1 for _, first, second in states for a, b in land.couples
                     if first[a][b] in rights and second[a][b] not in rights]
            self.assertIs(is_kinder(land, one, other, counted), not worse)

    def test_each_custom_is_kinder_than_itself(self):
        for k, custom in enumerate(customs()):
            self.assertTrue(self.check((PAIR, ROW, VEE)[k % 3], custom, custom, EVERYTHING))

    def test_alike_by_passing_exactly_if_each_is_kinder(self):
        for land, one, other, counted in drawn_pairs(353, 120):
            both = is_kinder(land, one, other, counted) and is_kinder(land, other, one, counted)
            self.assertIs(are_alike(land, one, other, counted, measure="passing"), both)

    def test_the_kinder_custom_keeps_open_what_the_other_one_does(self):
        for land, one, other, counted in drawn_pairs(354, 120):
            if is_kinder(land, one, other, counted):
                for cell in range(land.cells):
                    if is_never(land, one, cell, counted):
                        self.assertIs(is_never(land, other, cell, counted), True)

    def test_drawn_runs_under_a_kinder_custom(self):
        source = random.Random(355)
        for land, one, other, _ in drawn_pairs(356, 120):
            if is_kinder(land, one, other, EVERYTHING):
                run = TwinRun(land, one, other, some_deeds(source, land, one, 8))
                for first, second in zip(run.first.states(), run.second.states()):
                    self.assertLessEqual(set(second.shut), set(first.shut))
                    for cell in range(land.cells):
                        self.assertLessEqual(set(first.passing(cell)), set(second.passing(cell)))

    def test_some_by_hand(self):
        for land in (PAIR, ROW, VEE, FULL):
            for counted in counteds():
                self.assertTrue(self.check(land, BARE, KIND, counted))
                self.assertFalse(self.check(land, KIND, BARE, counted))
                self.assertTrue(self.check(land, KIND.changed("untold", "die"), KIND, counted))
        told = compare_kindness(PAIR, KIND, BARE, NOTHING)
        self.assertEqual((len(told.run), told.run.twin(told.cell).surplus), (1, (told.over,)))

    def test_all_need_not_be_kinder_than_need(self):
        need = Custom("needed stay", "die", "need", "need", "never")
        every = need.changed("sold", "all").changed("kept", "all")
        self.assertFalse(self.check(PAIR, need, every, Counted(grants=False)))
        self.assertTrue(self.check(PAIR, need, every, NOTHING))
        # The needed right stays as its cell goes untold; the awake one goes.
        run = compare_kindness(PAIR, need, every, Counted(grants=False)).run
        self.assertEqual([run.first.state.standing(0, 1), run.second.state.standing(0, 1)], ["needed", "none"])

    def test_first_surplus_of_any_cell(self):
        # The deeds that bring a surplus about for cell 0 may bring one for another cell ahead of it.
        source = random.Random(357)
        for number in range(0, 192, 3):
            self.check(ROW, custom_at(number), custom_at(source.randrange(192)), some_counted(source))

    def test_counted_left_out_none_by_place_and_by_name(self):
        for told in (compare_kindness(ROW, BARE, KIND), compare_kindness(ROW, BARE, KIND, None),
                     compare_kindness(land=ROW, one=BARE, other=KIND, counted=None)):
            self.assertEqual([table.counted for table in told.tables], [Counted()] * 3)
        self.assertIs(is_kinder(ROW, BARE, KIND), True)
        self.assertIs(is_kinder(land=ROW, one=KIND, other=BARE, counted=None), False)
        dying = KIND.changed("untold", "die")
        self.assertIs(is_kinder(ROW, KIND, dying), False)
        self.assertIs(is_kinder(ROW, KIND, dying, Counted(untold=False)), True)

    def test_what_is_wrong(self):
        for land in (RING, FORK):
            self.assertEqual(caught(lambda: compare_kindness(land, BARE, KIND)), ("TooWide", "cells"))
            self.assertEqual(caught(lambda: is_kinder(land, BARE, KIND)), ("TooWide", "cells"))

    def test_results_keep_what_they_are_passed(self):
        self.assertEqual(vars(Kinder(1)), {"tables": 1})
        self.assertEqual(vars(Unkind(1, 2, 3)), {"run": 1, "cell": 2, "over": 3})

    def test_tables_have_the_views_of_part_five(self):
        told = compare_kindness(ROW, BARE, KIND)
        for cell, table in enumerate(told.tables):
            for custom, views in ((BARE, table.firsts()), (KIND, table.seconds())):
                single = table_behind(TwinRun(ROW, custom, custom).first, cell)
                self.assertEqual(len(views), len(single))
