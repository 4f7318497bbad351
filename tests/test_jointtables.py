"""[7.7], [7.8]: joint tables and their judge."""

import random
import unittest

from helpers import FORK, NO_NUMBERS, PAIR, RING, ROW, caught, in_order, look, some_deeds, tuples_only
from landways.counted import Counted, counteds
from landways.customs import Custom, custom_at, customs
from landways.deeds import is_counted
from landways.histories import History
from landways.joint import JointView, joint_view, start_joint
from landways.jointsteps import joint_seen, joint_steps
from landways.jointtables import (JOINT_CELLS, JointTable, joint_table, joint_table_behind, joint_table_fault)
from landways.landforms import all_lands
from landways.lands import Land
from landways.steps import Come, Give, Go, Grant, Leave
from landways.tables import table_behind
from landways.views import start_view
from statewalk import came_by, state_graph

EXAMPLE = Custom("needed stay", "sleep", "none", "need", "never")
KIND = Custom("stay", "die", "all", "all", "never")
VEE = Land(3, [(0, 1), (0, 2)], [1, 2])


def numbers(joint):
    return (joint.first.number, joint.second.number)


def walked(custom, start, counted):
    """The distance of each joint view, by its numbers, level by level over joint steps."""
    distances, level, many = {numbers(start): 0}, [start], 0
    while level:
        many += 1
        further = {}
        for ahead in level:
            for pair in joint_steps(custom, ahead, counted):
                behind = joint_seen(custom, ahead, pair)
                if numbers(behind) not in distances:
                    further[numbers(behind)] = behind
        distances.update({key: many for key in further})
        level = list(further.values())
    return distances


def some_tables(seed, step=4, lands=(PAIR, ROW, VEE, ROW)):
    """Joint tables of drawn pasts, cells and sorts of counted deeds."""
    source = random.Random(seed)
    for number in range(0, 192, step):
        land, custom = lands[source.randrange(len(lands))], custom_at(number)
        past = History(land, custom, some_deeds(source, land, custom, source.randrange(4)))
        yield joint_table_behind(past, *source.choice(land.couples), Counted(*source.choices([False, True], k=3)))


class Rows(unittest.TestCase):

    def test_as_walked_again(self):
        for table in some_tables(171):
            start = joint_view(table.past.state, *table.cells)
            self.assertEqual(table.rows[0], (start, 0, None, None))
            self.assertEqual({numbers(row[0]): row[1] for row in table.rows}, walked(table.custom, start, table.counted))
            keys = [(row[1], numbers(row[0])) for row in table.rows]
            self.assertEqual(keys, sorted(set(keys)))
            for joint, distance, before, pair in table.rows[1:]:
                ahead = table.rows[before]
                self.assertEqual(ahead[1], distance - 1)
                self.assertEqual(joint_seen(table.custom, ahead[0], pair), joint)
                self.assertIn(pair, list(joint_steps(table.custom, ahead[0], table.counted)))

    def test_attributes(self):
        for table in some_tables(172, 16):
            self.assertIsInstance(table, JointTable)
            self.assertEqual(table.joints, tuple(row[0] for row in table.rows))
            self.assertEqual((table.land, table.custom), (table.past.land, table.past.custom))
            self.assertTrue({"past", "cells", "counted", "rows", "joints", "land", "custom"} <= set(vars(table)))
            self.assertTrue(tuples_only((table.rows, table.joints, table.cells)))

    def test_views_are_those_of_the_tables_of_each_cell(self):
        for number in range(192):
            land = (PAIR, ROW, VEE)[number % 3]
            counted = list(counteds())[number % 8]
            self.compare(joint_table(land, custom_at(number), 1, 0, counted))
        for table in some_tables(173, 3):
            self.compare(table)

    def compare(self, table):
        for cell, side in zip(table.cells, ("first", "second")):
            single = table_behind(table.past, cell, table.counted)
            views = table.views_of(cell)
            self.assertEqual([view.number for view in views], sorted(view.number for view in single.views))
            self.assertTrue(all(view in single for view in views))
            self.assertIsInstance(views, tuple)
            for joint, distance, _, _ in table.rows:
                self.assertGreaterEqual(distance, single.distance(getattr(joint, side)))

    def test_turned_couples(self):
        for table in some_tables(174):
            turned = joint_table_behind(table.past, *reversed(table.cells), table.counted)
            self.assertEqual(len(turned), len(table))
            for joint in table:
                self.assertEqual(turned.distance(joint.turned()), table.distance(joint))

    def test_against_all_states(self):
        lands = list(all_lands(3))
        jobs = [(PAIR, one, (1, 0)) for one in customs()]
        jobs += [(lands[k % 6], custom_at(k), ((2, 1), (0, 1), (0, 2))[k % 3]) for k in range(4, 192, 31)]
        for land, custom, cells in jobs:
            graph = state_graph(custom, land)
            for counted in counteds():
                came = {tuple((tuple(b for b in range(land.cells) if hands[b] == hands[cell]), standings[cell])
                              for cell in cells) for hands, standings in came_by(graph, counted)}
                table = joint_table(land, custom, *cells, counted)
                seen = {tuple((view.own, view.standings) for view in (joint.first, joint.second)) for joint in table}
                self.assertEqual(seen, came)

    def test_what_is_wrong(self):
        past = History(ROW, EXAMPLE)
        for thing in (-1, 3, *NO_NUMBERS):
            for ask in (lambda one, other: joint_table(ROW, EXAMPLE, one, other),
                        lambda one, other: joint_table_behind(past, one, other)):
                self.assertEqual(caught(lambda: ask(thing, 9)), ("BadCell", thing))
                self.assertEqual(caught(lambda: ask(0, thing)), ("BadCell", thing))
                self.assertEqual(caught(lambda: ask(1, 1)), ("BadJoint", "cells"))

    def test_lands_that_are_too_wide(self):
        self.assertEqual(JOINT_CELLS, 3)
        for land in (FORK, RING):
            self.assertEqual(caught(lambda: joint_table(land, EXAMPLE, 0, 1)), ("TooWide", "cells"))
            self.assertEqual(caught(lambda: joint_table_behind(History(land, EXAMPLE), 0, 1)), ("TooWide", "cells"))
            self.assertEqual(caught(lambda: joint_table(land, EXAMPLE, 4, 1)), ("BadCell", 4))
            self.assertEqual(caught(lambda: joint_table(land, EXAMPLE, 1, 4)), ("BadCell", 4))
            self.assertEqual(caught(lambda: joint_table(land, EXAMPLE, 1, 1)), ("BadJoint", "cells"))

    def test_counted_left_out_none_by_place_and_by_name(self):
        usual = joint_table(ROW, EXAMPLE, 2, 1, Counted())
        for table in (joint_table(ROW, EXAMPLE, 2, 1), joint_table(ROW, EXAMPLE, 2, 1, None),
                      joint_table(land=ROW, custom=EXAMPLE, first=2, second=1, counted=None),
                      joint_table_behind(History(ROW, EXAMPLE), 2, 1),
                      joint_table_behind(history=History(ROW, EXAMPLE), first=2, second=1, counted=None)):
            self.assertEqual((table, table.counted), (usual, Counted()))


class Asking(unittest.TestCase):

    def setUp(self):
        self.table = joint_table(ROW, KIND, 2, 1)

    def test_len_iteration_in(self):
        table = self.table
        self.assertEqual((len(table), list(table)), (len(table.rows), list(table.joints)))
        for joint in table:
            self.assertIs(joint in table, True)
        for thing in (start_joint(ROW, 1, 2), JointView(look(ROW, "2: nn"), look(ROW, "1: nn")), None, 0, (2, 1), "2: oo",
                      table.rows[0], start_view(ROW, 2), start_joint(VEE, 2, 1)):
            self.assertIs(thing in table, False)
            for ask in (table.distance, table.history_of):
                self.assertEqual(caught(lambda: ask(thing)), ("NoJoint", thing))

    def test_equal(self):
        table = self.table
        past, counted, rows = table.past, Counted(), table.rows
        self.assertTrue(table == JointTable(past, (2, 1), counted, tuple(reversed(rows))))
        self.assertTrue(table == JointTable(past, (2, 1), counted, tuple(row[:2] + (None, None) for row in rows)))
        self.assertFalse(table == JointTable(past, (1, 2), counted, rows))
        self.assertFalse(table == JointTable(past, (2, 1), Counted(False), rows))
        self.assertFalse(table == JointTable(past.then(("goes", [2], 1, [])), (2, 1), counted, rows))
        self.assertFalse(table == JointTable(past, (2, 1), counted, rows[:-1]))
        self.assertFalse(JointTable(past, (2, 1), counted, rows[:-1]) == table)
        other = (rows[-1][0], rows[-1][1] + 1, None, None)
        self.assertFalse(table == JointTable(past, (2, 1), counted, rows[:-1] + (other,)))
        for thing in (None, rows, past, table.joints):
            self.assertFalse(table == thing)

    def test_histories(self):
        for table in some_tables(175, 12):
            past = table.past
            self.assertEqual(table.history_of(table.joints[0]), past)
            for joint, distance, _, _ in table.rows[::2]:
                self.assertEqual(table.distance(joint), distance)
                history = table.history_of(joint)
                self.assertEqual((history.land, history.custom), (past.land, past.custom))
                self.assertEqual(history.deeds[:len(past)], past.deeds)
                self.assertLessEqual(len(history) - len(past), 2 * distance)
                joints = [joint_view(history.state_at(k), *table.cells) for k in range(len(past), len(history) + 1)]
                self.assertEqual(joints[-1], joint)
                self.assertEqual(len([k for k in range(1, len(joints)) if joints[k] != joints[k - 1]]), distance)
                for k in range(len(past), len(history)):
                    self.assertIs(is_counted(table.counted, history.state_at(k), history.deeds[k]), True)

    def test_views_of(self):
        for thing in (-1, 0, 3, *NO_NUMBERS):
            self.assertEqual(caught(lambda: self.table.views_of(thing)), ("BadCell", thing))
        self.assertEqual(caught(lambda: joint_table(PAIR, KIND, 0, 1).views_of(True)), ("BadCell", True))
        self.assertEqual([view.cell for view in self.table.views_of(2)], [2] * len(self.table.views_of(2)))

    def test_results_keep_what_they_are_passed(self):
        past = History(ROW, KIND)
        table = JointTable(past, (0, 1), Counted(), ())
        self.assertEqual((table.past, table.cells, table.rows, table.joints, len(table)), (past, (0, 1), (), (), 0))


class Judged(unittest.TestCase):

    def setUp(self):
        self.table = joint_table(ROW, EXAMPLE, 2, 1)
        self.rows = self.table.rows

    def fault(self, rows, **given):
        told = dict(past=self.table.past, cells=(2, 1), counted=self.table.counted)
        return joint_table_fault(JointTable(rows=tuple(rows), **{**told, **given}))

    def with_row(self, k, *parts):
        return self.rows[:k] + (tuple(parts),) + self.rows[k + 1:]

    def test_right_tables(self):
        for table in some_tables(176, 3):
            self.assertIsNone(joint_table_fault(table))

    def test_other_pairs_are_as_right(self):
        rows = [self.rows[0]]
        for joint, distance, _, _ in self.rows[1:]:
            ways = [(k, pair) for k, row in enumerate(self.rows) if row[1] == distance - 1
                    for pair in joint_steps(EXAMPLE, row[0]) if joint_seen(EXAMPLE, row[0], pair) == joint]
            rows.append((joint, distance, *ways[-1]))
        self.assertIsNone(self.fault(rows))

    def test_rows(self):
        self.assertEqual(self.fault(()), "rows")

    def test_start(self):
        start = self.rows[0][0]
        for parts in [(start.turned(), 0, None, None), (self.rows[1][0], 0, None, None), (start, 1, None, None),
                      (start, 0, 0, None), (start, 0, None, (Leave([0]), Leave([0])))]:
            self.assertEqual(self.fault(self.with_row(0, *parts)), "start")
        self.assertEqual(self.fault(self.rows, cells=(1, 2)), "start")
        self.assertEqual(self.fault(self.rows, past=History(ROW, EXAMPLE, [("goes", [2], 1, [])])), "start")

    def test_double(self):
        self.assertEqual(self.fault(self.rows + self.rows[-1:]), "double")
        self.assertEqual(self.fault(self.rows + ((self.rows[0][0], 1, 0, None),)), "double")

    def test_before(self):
        last = len(self.rows) - 1
        joint, distance, before, pair = self.rows[last]
        for wrong in (None, -1, 0, last, len(self.rows), True, "0"):
            self.assertEqual(self.fault(self.with_row(last, joint, distance, wrong, pair)), "before")
        self.assertEqual(self.fault(self.with_row(last, joint, distance + 1, before, pair)), "before")
        joint, distance, _, pair = self.rows[1]
        for wrong in (None, 1, 2, last):
            self.assertEqual(self.fault(self.with_row(1, joint, distance, wrong, pair)), "before")

    def test_step(self):
        joint, distance, before, pair = self.rows[1]
        self.assertIsNone(self.fault(self.with_row(1, joint, distance, before, pair)))
        for wrong in (None, (), (None, None), pair[::-1] if pair[::-1] != pair else None, pair[:1], list(pair),
                      (Grant([0]), None), (Come([0]), Come([0])), (Give([0]), None), (Go([2], [0]), Leave([2])), "step"):
            self.assertEqual(self.fault(self.with_row(1, joint, distance, before, wrong)), "step", wrong)
        self.assertEqual(self.fault(self.with_row(1, joint.turned(), distance, before, pair)), "step")
        self.assertEqual(self.fault(self.rows, counted=Counted(grants=False)), "step")

    def test_steps_that_lead_elsewhere(self):
        joint, distance, before, _ = self.rows[-1]
        ahead = self.rows[before][0]
        others = [pair for pair in joint_steps(EXAMPLE, ahead) if joint_seen(EXAMPLE, ahead, pair) != joint]
        self.assertTrue(others)
        for pair in others:
            self.assertEqual(self.fault(self.rows[:-1] + ((joint, distance, before, pair),)), "step")

    def test_order(self):
        many = len(self.rows)
        self.assertIsNone(self.fault(in_order(self.rows, range(many))))
        for k in range(1, many - 1, 5):
            self.assertEqual(self.fault(in_order(self.rows, [*range(k), k + 1, k, *range(k + 2, many)])), "order")
        self.assertEqual(self.fault(in_order(self.rows, [0, *reversed(range(1, many))])), "order")

    def test_closed(self):
        self.assertEqual(self.fault(self.rows[:-1]), "closed")
        self.assertEqual(self.fault(self.rows[:1]), "closed")
        fewer = joint_table(ROW, KIND, 2, 1, Counted(False, False, False))
        self.assertEqual(joint_table_fault(JointTable(fewer.past, (2, 1), Counted(giving_up=True), fewer.rows)), "closed")

    def test_nearer(self):
        custom, fewer = Custom("stay", "sleep", "none", "all", "never"), Counted(False, False, False)
        table = joint_table(PAIR, custom, 0, 1, fewer)
        more = joint_table(PAIR, custom, 0, 1, Counted(untold=False))
        self.assertIsNone(joint_table_fault(table))
        self.assertEqual({numbers(joint) for joint in table}, {numbers(joint) for joint in more})
        self.assertEqual(joint_table_fault(JointTable(table.past, (0, 1), Counted(untold=False), table.rows)), "nearer")

    def test_the_first_of_two_words(self):
        rows = self.rows
        doubled = rows + ((rows[3][0], 9, None, None),)
        self.assertEqual(self.fault(doubled), "double")
        self.assertEqual(self.fault(((rows[0][0], 1, None, None),) + doubled[1:]), "start")
        wrong = rows[:1] + ((rows[1][0], 1, 0, None),) + rows[2:]
        self.assertEqual(self.fault(wrong[:-1] + ((rows[-1][0], rows[-1][1], None, None),)), "before")
        self.assertEqual(self.fault(wrong[:-1]), "step")
        self.assertEqual(self.fault((rows[0], rows[2], rows[1])), "order")
        self.assertEqual(self.fault((rows[0], rows[2])), "closed")
