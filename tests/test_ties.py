"""What later parts return, as earlier parts read it: 1.7, 2.3, 2.5, 3.5, 3.7, 4.7, 4.8, 5.3, 5.10, 7.1."""

import random
import unittest

from helpers import PAIR, ROW, some_deeds, some_histories
from landways.burdens import Met, double_burden, meet
from landways.counted import Counted, counteds
from landways.couplewise import followed
from landways.customs import custom_at, customs
from landways.customtext import custom_text, parse_custom
from landways.deedtext import history_text, parse_history
from landways.everyland import on_all_lands, probe_land, shutting
from landways.histories import History
from landways.joint import joint_view
from landways.jointtables import joint_table
from landways.landforms import all_lands
from landways.lands import Land
from landways.landtext import land_text, parse_land
from landways.leading import lead_over
from landways.listing import plain_step
from landways.seeing import step_of
from landways.tables import view_table
from landways.twocells import events_to, pair_states, play_events
from landways.verdicts import Never, Shut, verdict_of
from landways.views import view_of
from landways.walks import retold
from test_burdens import answers

VEE = Land(3, [(0, 1), (0, 2)], [1, 2])
EVERYTHING = Counted(True, True, True)


class Texts(unittest.TestCase):

    def check(self, history):
        self.assertEqual(parse_history(history_text(history)), history)
        self.assertEqual(History(history.land, history.custom, list(history)), history)

    def test_histories_that_are_returned(self):
        for number in range(0, 192, 3):
            custom = custom_at(number)
            for counted in counteds():
                for word in ("far", "loose", "bound"):
                    history = shutting(probe_land(word), custom, 0, counted)
                    if history is not None:
                        self.check(history)
            table = view_table(ROW, custom, 2)
            self.check(table.history_of(table.views[-1]))
            table = joint_table(ROW, custom, 2, 0)
            self.check(table.history_of(table.joints[-1]))
            events = events_to(custom, EVERYTHING, pair_states(custom, EVERYTHING)[-1])
            self.check(play_events(custom, events))
            if not custom.uses("beside"):
                self.check(lead_over(play_events(custom, events), ROW, 2))

    def test_probe_lands(self):
        self.assertEqual([land_text(probe_land(word)) for word in ("bound", "far")],
                         ["cells 2\nroads 1\nnext 0 1", "cells 3\nroads 2\nnext 0 1\nnext 1 2"])
        for word in ("far", "loose", "bound"):
            self.assertEqual(parse_land(land_text(probe_land(word))), probe_land(word))

    def test_customs_of_results(self):
        for custom in customs():
            every = on_all_lands(parse_custom(custom_text(custom)))
            self.assertEqual((every, every.custom.number), (on_all_lands(custom_at(custom.number)), custom.number))


class Couples(unittest.TestCase):

    def test_followed_couples_are_pairs_that_can_come(self):
        plain = [one.number for one in customs() if not one.uses("need")]
        for history in some_histories(191, plain, many=8):
            for a, b in history.land.couples:
                near = history.land.is_neighbour(a, b)
                pairs = pair_states(history.custom, EVERYTHING, near=near)
                for alike, standing in followed(history, a, b):
                    self.assertIn("own" if alike and standing == "none" else standing, pairs)


class DrawnHistories(unittest.TestCase):
    """Whatever comes in a history that is counted is told of all histories."""

    def histories(self, seed, many):
        source = random.Random(seed)
        for number in range(192):
            land, custom = (PAIR, ROW, VEE)[number % 3], custom_at(number)
            yield History(land, custom, some_deeds(source, land, custom, many))

    def counted_by(self, history):
        """The Counted that counts no more than the deeds of the history want."""
        return [counted for counted in counteds() if history.is_counted(counted)][0]

    def test_views_and_verdicts(self):
        for history in self.histories(192, 5):
            counted = self.counted_by(history)
            for cell in range(history.land.cells):
                table = view_table(history.land, history.custom, cell, counted)
                for many, state in enumerate(history.states()):
                    self.assertLessEqual(table.distance(view_of(state, cell)), many)
                told = verdict_of(history.land, history.custom, cell, counted)
                first = history.first_shut(cell)
                if first is not None:
                    self.assertIsInstance(told, Shut)
                    self.assertLessEqual(told.steps, first)
                    number = on_all_lands(history.custom, counted).fewest(history.land, cell)
                    self.assertLessEqual(number, first)
                self.assertLessEqual(len(retold(history, cell, counted)), 2 * len(history))

    def test_steps_of_deeds_lead_through_the_table(self):
        for history in self.histories(193, 5):
            counted = self.counted_by(history)
            for cell in range(history.land.cells):
                table = view_table(history.land, history.custom, cell, counted)
                for k, deed in enumerate(history):
                    ahead, behind = (view_of(history.state_at(m), cell) for m in (k, k + 1))
                    step = step_of(history.state_at(k), cell, deed)
                    moved = step is not None and plain_step(history.custom, ahead, step) is not None
                    self.assertLessEqual(table.distance(behind), table.distance(ahead) + (1 if moved else 0))

    def test_questions(self):
        for history in self.histories(194, 4):
            counted = self.counted_by(history)
            for first, second in history.land.couples[::2]:
                joints = [joint_view(state, first, second) for state in history.states()]
                for question in answers(joints[0]):
                    met = [many for many, joint in enumerate(joints) if answers(joint)[question]]
                    if met:
                        told = meet(history.land, history.custom, first, second, question, counted)
                        self.assertIsInstance(told, Met)
                        self.assertLessEqual(told.steps, met[0])

    def test_double_burdens(self):
        for history in self.histories(195, 6):
            counted = self.counted_by(history)
            state = history.state
            for cell in range(history.land.cells):
                over = [a for a in history.land.others(cell) if state.standing(a, cell) in ("awake", "needed")]
                if len({state.hand(a) for a in over}) == 2:
                    told = double_burden(history.land, history.custom, cell, counted)
                    self.assertIsNotNone(told)
                    self.assertLessEqual(told[3], len(history))


class AllLands(unittest.TestCase):

    def test_both_cells_off_the_road_in_no_more_deeds_than_one(self):
        land = next(one for one in all_lands(3) if len(one.roads) == 1)
        first, second = [cell for cell in range(3) if cell not in land.roads]
        for custom in customs():
            if not custom.uses("beside"):
                for counted in counteds():
                    number = on_all_lands(custom, counted).bound
                    told = meet(land, custom, first, second, "both", counted)
                    self.assertIs(isinstance(told, Met), number is not None)
                    if number is not None:
                        self.assertLessEqual(told.steps, number)
                    self.assertIs(isinstance(verdict_of(land, custom, first, counted), Never), number is None)
