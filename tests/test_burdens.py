"""[7.9], [7.10]: questions about two cells, and double burdens."""

import random
import unittest

from helpers import FORK, NO_NUMBERS, PAIR, RING, ROW, caught, look, some_deeds
from landways.burdens import (QUESTIONS, Met, NeverMet, double_burden, doubly_burdened, meet, meet_behind, meets)
from landways.counted import Counted, counteds
from landways.customs import Custom, custom_at, customs
from landways.deeds import is_counted
from landways.histories import History
from landways.joint import JointView, all_joint_views, joint_view
from landways.jointtables import joint_table, joint_table_behind
from landways.landforms import all_lands
from landways.lands import Land
from landways.verdicts import shuttable

KIND = Custom("stay", "die", "all", "all", "never")
BARE = Custom("stay", "die", "none", "none", "never")
VEE = Land(3, [(0, 1), (0, 2)], [1, 2])
NO_QUESTIONS = (None, 0, True, "", "Both", "doubled", ["both"], ("both",), {})


def answers(joint):
    """What the joint view answers to each question, from its two views."""
    first, second = joint.first, joint.second
    a, b = joint.cells
    over = set(first.rights) & set(second.rights) & set(first.outside) & set(second.outside)
    return {"both": not first.is_open() and not second.is_open(), "one": not first.is_open() and second.is_open(),
            "crossed": b in first.rights and a in second.rights, "needs": b in first.needed and a in second.needed,
            "double": len(over) > 0 and b not in first.own}


class Questions(unittest.TestCase):

    def test_words(self):
        self.assertEqual(QUESTIONS, ("both", "one", "crossed", "needs", "double"))

    def test_each_joint_view(self):
        for joint in [*all_joint_views(PAIR, 0, 1), *all_joint_views(ROW, 2, 1), *list(all_joint_views(FORK, 1, 2))[::31]]:
            expected = answers(joint)
            for question in QUESTIONS:
                self.assertIs(meets(joint, question), expected[question])

    def test_some_by_hand(self):
        joint = JointView(look(ROW, "2: nn"), look(ROW, "1: an"))
        self.assertEqual([meets(joint, question) for question in QUESTIONS], [False, False, True, True, True])
        joint = JointView(look(ROW, "2: .n"), look(ROW, "1: oa"))
        self.assertEqual([meets(joint, question) for question in QUESTIONS], [False, True, True, False, False])

    def test_what_is_no_question(self):
        joint = JointView(look(ROW, "2: nn"), look(ROW, "1: an"))
        for thing in NO_QUESTIONS:
            self.assertEqual(caught(lambda: meets(joint, thing)), ("BadQuestion", thing))
            self.assertEqual(caught(lambda: meet(ROW, BARE, 1, 2, thing)), ("BadQuestion", thing))
            self.assertEqual(caught(lambda: meet_behind(History(ROW, BARE), 1, 2, thing)), ("BadQuestion", thing))


class Meeting(unittest.TestCase):

    def check(self, past, first, second, question, counted):
        told = meet_behind(past, first, second, question, counted)
        table = joint_table_behind(past, first, second, counted)
        near = [row[1] for row in table.rows if answers(row[0])[question]]
        if not near:
            self.assertIsInstance(told, NeverMet)
            self.assertEqual((told.question, told.told), (question, table))
            self.assertEqual(told.told.counted, counted)
            return
        self.assertIsInstance(told, Met)
        self.assertEqual((told.question, told.steps), (question, min(near)))
        history = told.history
        self.assertEqual((history.land, history.custom), (past.land, past.custom))
        self.assertEqual(history.deeds[:len(past)], past.deeds)
        joints = [joint_view(history.state_at(k), first, second) for k in range(len(past), len(history) + 1)]
        self.assertTrue(answers(joints[-1])[question])
        self.assertEqual(len([k for k in range(1, len(joints)) if joints[k] != joints[k - 1]]), told.steps)
        for k in range(len(past), len(history)):
            self.assertIs(is_counted(counted, history.state_at(k), history.deeds[k]), True)

    def test_drawn_histories(self):
        source = random.Random(181)
        for number in range(192):
            land, custom = (PAIR, ROW, VEE)[number % 3], custom_at(number)
            past = History(land, custom, some_deeds(source, land, custom, source.randrange(5)))
            counted = Counted(*source.choices([False, True], k=3))
            first, second = source.choice(land.couples)
            for question in QUESTIONS:
                self.check(past, first, second, question, counted)

    def test_met_already(self):
        past = History(ROW, BARE, [("goes", [2], 1, []), ("goes", [1], 2, [])])
        told = meet_behind(past, 1, 2, "both")
        self.assertEqual((told.history, told.steps), (past, 0))

    def test_from_the_start(self):
        self.assertEqual(meet(ROW, BARE, 1, 2, "both").steps, 1)
        self.assertEqual(meet(ROW, BARE, 2, 1, "one").steps, 1)
        self.assertIsInstance(meet(ROW, KIND, 1, 2, "both"), NeverMet)
        self.assertEqual(meet(ROW, KIND, 1, 2, "crossed").steps, 1)
        self.assertIsInstance(meet(ROW, KIND, 1, 2, "needs", Counted(True, True, True)), NeverMet)

    def test_counted_left_out_none_by_place_and_by_name(self):
        for told in (meet(ROW, KIND, 1, 2, "both"), meet(ROW, KIND, 1, 2, "both", None),
                     meet(land=ROW, custom=KIND, first=1, second=2, question="both", counted=None),
                     meet_behind(History(ROW, KIND), 1, 2, "both"), meet_behind(History(ROW, KIND), 1, 2, "both", Counted())):
            self.assertEqual((told.told, told.told.counted), (joint_table(ROW, KIND, 1, 2), Counted()))
        self.assertIsInstance(meet(ROW, KIND, 1, 2, "both", counted=Counted(giving_up=True)), Met)

    def test_both_is_met_off_the_road_exactly_if_a_cell_can_be_shut_off(self):
        for custom in customs():
            if not custom.uses("beside"):
                for counted in counteds():
                    met = isinstance(meet(ROW, custom, 1, 2, "both", counted), Met)
                    self.assertIs(met, shuttable(PAIR, custom, counted) == (0,))

    def test_what_is_wrong(self):
        past = History(ROW, BARE)
        for thing in (-1, 3, *NO_NUMBERS):
            for ask in (lambda one, other: meet(ROW, BARE, one, other, None),
                        lambda one, other: meet_behind(past, one, other, None)):
                self.assertEqual(caught(lambda: ask(thing, 9)), ("BadCell", thing))
                self.assertEqual(caught(lambda: ask(0, thing)), ("BadCell", thing))
                self.assertEqual(caught(lambda: ask(2, 2)), ("BadJoint", "cells"))
        self.assertEqual(caught(lambda: meet(RING, BARE, 1, 2, None)), ("TooWide", "cells"))
        self.assertEqual(caught(lambda: meet_behind(History(RING, BARE), 1, 2, None)), ("TooWide", "cells"))
        self.assertEqual(caught(lambda: meet(RING, BARE, 1, 1, None)), ("BadJoint", "cells"))

    def test_results_keep_what_they_are_passed(self):
        self.assertEqual(vars(NeverMet(1, 2)), {"question": 1, "told": 2})
        self.assertEqual(vars(Met(1, 2, 3)), {"question": 1, "history": 2, "steps": 3})


class Burdens(unittest.TestCase):

    def check(self, land, custom, cell, counted):
        expected = None
        for one, other in land.couples:
            if expected is None and one < other and cell not in (one, other):
                table = joint_table(land, custom, one, other, counted)
                near = [row[1] for row in table.rows if cell in row[0].doubled]
                expected = (one, other, min(near)) if near else None
        told = double_burden(land, custom, cell, counted)
        if expected is None:
            self.assertIsNone(told)
            return
        self.assertIsInstance(told, tuple)
        one, other, history, steps = told
        self.assertEqual((one, other, steps), expected)
        self.assertEqual((history.land, history.custom), (land, custom))
        self.assertIs(history.is_counted(counted), True)
        state = history.state
        self.assertEqual(len({state.hand(b) for b in (cell, one, other)}), 3)
        self.assertIn(state.standing(one, cell), ("awake", "needed"))
        self.assertIn(state.standing(other, cell), ("awake", "needed"))
        joints = [joint_view(now, one, other) for now in history.states()]
        self.assertEqual(len([k for k in range(1, len(joints)) if joints[k] != joints[k - 1]]), steps)

    def test_three_cells(self):
        lands = list(all_lands(3))
        for number in range(192):
            counted = list(counteds())[(number // 3) % 8]
            for cell in range(3):
                self.check(lands[number % 6], custom_at(number), cell, counted)

    def test_some_by_hand(self):
        one, other, history, steps = double_burden(ROW, KIND, 0)
        self.assertEqual((one, other, steps), (1, 2, 2))
        self.assertEqual(history.state.shut, ())
        self.assertEqual(double_burden(ROW, KIND, 1)[:2], (0, 2))
        self.assertEqual(doubly_burdened(ROW, KIND), (0, 1, 2))
        self.assertIsNone(double_burden(ROW, BARE, 0, Counted(grants=False)))
        self.assertEqual(doubly_burdened(ROW, BARE, Counted(grants=False)), ())
        self.assertEqual(doubly_burdened(ROW, BARE), (0, 1, 2))

    def test_two_cells_bear_none(self):
        for custom in customs():
            for cell in (0, 1):
                self.assertIsNone(double_burden(PAIR, custom, cell, Counted(True, True, True)))
            self.assertEqual(doubly_burdened(PAIR, custom), ())

    def test_all_cells_or_none_where_burdens_do_not_hang_on_the_land(self):
        for number in range(192):
            custom = custom_at(number)
            for counted in counteds():
                sides = (custom.sold, custom.kept)
                if counted.grants and number % 4 == 0 or not {"need", "beside"} & set(sides):
                    found = doubly_burdened(list(all_lands(3))[number % 6], custom, counted)
                    self.assertEqual(found, (0, 1, 2) if counted.grants or "all" in sides else ())

    def test_the_cells_for_which_there_is_one(self):
        for number in range(0, 192, 13):
            for counted in counteds():
                cells = [cell for cell in range(3) if double_burden(VEE, custom_at(number), cell, counted) is not None]
                self.assertEqual(doubly_burdened(VEE, custom_at(number), counted), tuple(cells))

    def test_counted_left_out_none_by_place_and_by_name(self):
        for told in (double_burden(ROW, BARE, 0), double_burden(ROW, BARE, 0, None),
                     double_burden(land=ROW, custom=BARE, cell=0, counted=None)):
            self.assertEqual(told[:2], (1, 2))
        self.assertEqual(doubly_burdened(ROW, BARE, None), (0, 1, 2))
        self.assertEqual(doubly_burdened(land=ROW, custom=BARE, counted=Counted()), (0, 1, 2))

    def test_what_is_wrong(self):
        for thing in (-1, 4, *NO_NUMBERS):
            self.assertEqual(caught(lambda: double_burden(RING, BARE, thing)), ("BadCell", thing))
        self.assertEqual(caught(lambda: double_burden(RING, BARE, 0)), ("TooWide", "cells"))
        self.assertEqual(caught(lambda: doubly_burdened(RING, BARE)), ("TooWide", "cells"))
        self.assertEqual(caught(lambda: doubly_burdened(FORK, BARE, None)), ("TooWide", "cells"))
