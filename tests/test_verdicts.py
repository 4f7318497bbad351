"""[5.10], [5.11]: verdicts for all histories."""

import random
import unittest

from helpers import CHAIN, FORK, NO_NUMBERS, PAIR, RING, ROW, caught, some_deeds
from landways.counted import Counted, counteds
from landways.customs import Custom, custom_at, customs
from landways.deeds import is_counted
from landways.histories import History
from landways.lands import Land
from landways.tables import Table, table_behind, view_table
from landways.verdicts import (Never, Nobody, Shut, anybody, anybody_behind, is_never, shuttable, verdict_behind,
                               verdict_of)
from landways.views import view_of
from landways.walks import danger_of
from statewalk import came_by, is_shut, state_graph

EXAMPLE = Custom("needed stay", "sleep", "none", "need", "never")
KIND = Custom("stay", "die", "all", "all", "never")
BARE = Custom("stay", "die", "none", "none", "never")
VEE = Land(3, [(0, 1), (0, 2)], [1, 2])


class Verdicts(unittest.TestCase):

    def check(self, past, cell, counted):
        told = verdict_behind(past, cell, counted)
        table = table_behind(past, cell, counted)
        danger = danger_of(table, table.views[0])
        if danger is None:
            self.assertIsInstance(told, Never)
            self.assertEqual(told.table, table)
            self.assertEqual(told.table.counted, counted)
            return
        self.assertIsInstance(told, Shut)
        self.assertEqual((told.cell, told.steps), (cell, danger))
        self.check_history(past, told, counted)

    def check_history(self, past, told, counted):
        history = told.history
        self.assertEqual((history.land, history.custom), (past.land, past.custom))
        self.assertEqual(history.deeds[:len(past)], past.deeds)
        self.assertIn(told.cell, history.state.shut)
        views = [view_of(history.state_at(k), told.cell) for k in range(len(past), len(history) + 1)]
        self.assertEqual(len([k for k in range(1, len(views)) if views[k] != views[k - 1]]), told.steps)
        for k in range(len(past), len(history)):
            self.assertIs(is_counted(counted, history.state_at(k), history.deeds[k]), True)

    def test_from_the_start(self):
        for number in range(192):
            land = (PAIR, ROW, VEE)[number % 3]
            for counted in counteds():
                for cell in range(land.cells):
                    self.check(History(land, custom_at(number)), cell, counted)

    def test_behind_drawn_histories(self):
        source = random.Random(91)
        for number in range(0, 192, 2):
            land = (ROW, VEE, RING, FORK)[source.randrange(4)]
            past = History(land, custom_at(number), some_deeds(source, land, custom_at(number), 4))
            self.check(past, source.randrange(land.cells), Counted(*source.choices([False, True], k=3)))

    def test_against_all_states(self):
        for custom in customs():
            graph = state_graph(custom, PAIR)
            for counted in counteds():
                states = came_by(graph, counted)
                shut = tuple(cell for cell in (0, 1) if any(is_shut(PAIR, state, cell) for state in states))
                self.assertEqual(shuttable(PAIR, custom, counted), shut)

    def test_five_cells(self):
        self.check(History(CHAIN, Custom("needed stay", "sleep", "need", "need", "free")), 4, Counted(grants=False))
        self.check(History(CHAIN, KIND), 4, Counted())

    def test_shut_off_already(self):
        past = History(ROW, BARE, [("goes", [2], 1, [])])
        told = verdict_behind(past, 2)
        self.assertEqual((told.cell, told.history, told.steps), (2, past, 0))

    def test_road_cells(self):
        for custom in customs():
            self.assertIsInstance(verdict_of(ROW, custom, 0, Counted(True, True, True)), Never)

    def test_counted_left_out_none_by_place_and_by_name(self):
        for told in (verdict_of(ROW, KIND, 2), verdict_of(ROW, KIND, 2, None), verdict_of(ROW, KIND, 2, counted=None),
                     verdict_behind(History(ROW, KIND), 2), verdict_behind(history=History(ROW, KIND), cell=2)):
            self.assertEqual(told.table, view_table(ROW, KIND, 2, Counted()))
            self.assertEqual(told.table.counted, Counted())
        giving = Counted(giving_up=True)
        self.assertEqual(verdict_of(ROW, KIND, 2, giving).steps, 2)
        self.assertEqual(verdict_of(ROW, KIND, 2, counted=giving).steps, 2)

    def test_what_is_no_cell(self):
        for thing in (-1, 3, *NO_NUMBERS):
            for ask in (lambda: verdict_of(ROW, BARE, thing), lambda: verdict_behind(History(ROW, BARE), thing),
                        lambda: is_never(ROW, BARE, thing)):
                self.assertEqual(caught(ask), ("BadCell", thing))

    def test_results_keep_what_they_are_passed(self):
        self.assertEqual(vars(Never(1)), {"table": 1})
        self.assertEqual(vars(Shut(1, 2, 3)), {"cell": 1, "history": 2, "steps": 3})
        self.assertEqual(vars(Nobody(())), {"tables": ()})


class Anybody(unittest.TestCase):

    def test_each_cell_by_itself(self):
        source = random.Random(92)
        for number in range(0, 192, 2):
            custom = custom_at(number)
            land = (PAIR, ROW, VEE)[number % 3]
            past = History(land, custom, some_deeds(source, land, custom, number % 4))
            counted = Counted(*source.choices([False, True], k=3))
            told = [verdict_behind(past, cell, counted) for cell in range(land.cells)]
            shut = [one for one in told if isinstance(one, Shut)]
            found = anybody_behind(past, counted)
            if not shut:
                self.assertIsInstance(found, Nobody)
                self.assertEqual(found.tables, tuple(one.table for one in told))
                self.assertIsInstance(found.tables, tuple)
            else:
                self.assertIsInstance(found, Shut)
                self.assertEqual((found.steps, found.cell), min((one.steps, one.cell) for one in shut))
                self.assertIn(found.cell, found.history.state.shut)

    def test_from_the_start(self):
        found = anybody(ROW, KIND)
        self.assertEqual([table.cell for table in found.tables], [0, 1, 2])
        self.assertTrue(all(isinstance(table, Table) and table.counted == Counted() for table in found.tables))
        found = anybody(ROW, BARE)
        self.assertEqual((found.cell, found.steps), (1, 1))
        self.assertEqual(anybody(ROW, KIND, Counted(giving_up=True)).cell, 1)
        self.assertEqual(anybody(land=ROW, custom=KIND, counted=Counted(giving_up=True)).steps, 2)

    def test_the_fewest_steps_come_ahead_of_the_least_cell(self):
        past = History(ROW, BARE, [("goes", [2], 1, [])])
        self.assertEqual((anybody_behind(past).cell, anybody_behind(past, None).steps), (2, 0))

    def test_shuttable(self):
        self.assertEqual(shuttable(ROW, BARE), (1, 2))
        self.assertEqual(shuttable(ROW, KIND), ())
        self.assertEqual(shuttable(ROW, KIND, None), ())
        self.assertEqual(shuttable(ROW, KIND, Counted(giving_up=True)), (1, 2))
        self.assertEqual(shuttable(VEE, BARE, counted=Counted()), (0,))
        self.assertEqual(shuttable(ROW, Custom("stay", "die", "beside", "all", "never")), (2,))
        for number in range(0, 192, 11):
            for counted in counteds():
                cells = [cell for cell in range(3) if not is_never(ROW, custom_at(number), cell, counted)]
                self.assertEqual(shuttable(ROW, custom_at(number), counted), tuple(cells))

    def test_is_never(self):
        self.assertIs(is_never(ROW, KIND, 2), True)
        self.assertIs(is_never(ROW, EXAMPLE, 2), False)
        self.assertIs(is_never(ROW, EXAMPLE, 0, Counted(True, True, True)), True)
        self.assertIs(is_never(ROW, KIND, 2, counted=Counted(giving_up=True)), False)
