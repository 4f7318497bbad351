"""[7.6]: what a deed is for two cells, and joint steps."""

import inspect
import random
import unittest

from helpers import (CHAIN, FORK, NO_NUMBERS, PAIR, RING, ROW, caught, look, some_deeds, some_histories, subsets, tuples_only)
from landways.counted import Counted, counteds
from landways.customs import Custom, custom_at
from landways.deeds import deed_fault, is_counted
from landways.histories import History
from landways.joint import JointView, all_joint_views, joint_view, start_joint
from landways.jointsteps import joint_brought, joint_seen, joint_step_of, joint_steps
from landways.listing import plain_step
from landways.seeing import is_settled_view, see_step, step_of
from landways.states import State, start_state
from landways.steps import Come, Give, Go, Grant, Leave, Step
from landways.views import view_of

EVERYTHING = Counted(True, True, True)
EXAMPLE = Custom("needed stay", "sleep", "none", "need", "never")


def key(pair):
    """A pair of steps as plain tuples."""
    return tuple(None if step is None else (step.kind, step.cells, step.others) for step in pair)


def partings(cells):
    """All ways to part the cells into lots."""
    if not cells:
        yield []
        return
    for parting in partings(cells[1:]):
        yield [cells[:1]] + parting
        for k, lot in enumerate(parting):
            yield parting[:k] + [cells[:1] + lot] + parting[k + 1:]


def states_of(joint):
    """A state for each parting of the cells beyond, in which no other cell has a right."""
    land = joint.land
    for parting in partings(list(joint.beyond)):
        hands = [0 if b in joint.first.own else 1 for b in range(land.cells)]
        for k, lot in enumerate(parting):
            for b in lot:
                hands[b] = 2 + k
        rows = [["none"] * land.cells for _ in range(land.cells)]
        rows[joint.cells[0]] = list(joint.first.standings)
        rows[joint.cells[1]] = list(joint.second.standings)
        yield State(land, hands, rows)


def deeds_of(state, first, second):
    """All deeds that can be done, but that what does not bear on rights of the two cells is told."""
    land = state.land
    for cells in subsets(range(land.cells))[1:]:
        for hand in sorted({*state.hands, 9}):
            moved = [b for b in cells if state.hands[b] != hand]
            if moved:
                asked = [(a, b) for a, b in land.couples if a in (first, second) and b in moved]
                for told in subsets(asked):
                    yield ("goes", cells, hand, told + tuple(couple for couple in land.couples if couple not in asked))
    for lot in state.lots:
        for other in state.lots:
            if lot != other:
                for cells in subsets(lot)[1:]:
                    for over in subsets(other)[1:]:
                        yield ("grant", cells, over)
                        yield ("gives", cells, over)


def steps_by_deeds(custom, joint, counted):
    """The joint steps, by trying all deeds in all states that have the joint view."""
    found = set()
    for state in states_of(joint):
        for deed in deeds_of(state, *joint.cells):
            if is_counted(counted, state, deed):
                found.add(key(joint_step_of(custom, state, *joint.cells, deed)))
    return found - {(None, None)}


def settled_joints(seed, land, first, second, many):
    """Drawn customs, with joint views whose two views are settled."""
    source = random.Random(seed)
    joints = list(all_joint_views(land, first, second))
    while many:
        custom, joint = custom_at(source.randrange(192)), source.choice(joints)
        if is_settled_view(custom, joint.first) and is_settled_view(custom, joint.second):
            many -= 1
            yield custom, joint


class StepsOfDeeds(unittest.TestCase):

    def test_some_by_hand(self):
        state = start_state(ROW)
        self.assertEqual(joint_step_of(EXAMPLE, state, 2, 1, ("goes", [0, 1], 1, [])), (Leave([0, 1]), Go([0, 1])))
        self.assertEqual(joint_step_of(EXAMPLE, state, 1, 2, ("goes", [0], 1, [])), (Leave([0]), Leave([0])))
        self.assertEqual(joint_step_of(EXAMPLE, state, 1, 2, ("goes", [0, 1, 2], 1, [])), (None, None))
        apart = State(ROW, [0, 1, 2], [["none"] * 3, ["awake", "none", "none"], ["needed", "awake", "none"]])
        self.assertEqual(joint_step_of(EXAMPLE, apart, 1, 2, ("goes", [0], 9, [])), (Leave([], [0]), None))
        self.assertEqual(joint_step_of(EXAMPLE, apart, 2, 1, ("goes", [1], 2, [])), (Come([1]), Come([2])))
        self.assertEqual(joint_step_of(EXAMPLE, apart, 1, 2, ("grant", [1], [0])), (None, None))
        self.assertEqual(joint_step_of(EXAMPLE, apart, 1, 2, ("grant", [2], [0])), (None, Grant([0])))
        self.assertEqual(joint_step_of(EXAMPLE, apart, 1, 2, ("gives", [1], [0])), (Give([0]), None))

    def test_plain_steps_of_the_two(self):
        for history in some_histories(151, range(0, 192, 2), many=7):
            custom = history.custom
            for k, deed in enumerate(history):
                state = history.state_at(k)
                for a, b in history.land.couples:
                    expected = []
                    for cell in (a, b):
                        step = step_of(state, cell, deed)
                        expected.append(None if step is None else plain_step(custom, view_of(state, cell), step))
                    self.assertEqual(joint_step_of(custom, state, a, b, deed), tuple(expected))

    def test_what_is_wrong(self):
        state = start_state(ROW)
        for thing in (-1, 3, *NO_NUMBERS):
            self.assertEqual(caught(lambda: joint_step_of(EXAMPLE, state, thing, 9, None)), ("BadCell", thing))
            self.assertEqual(caught(lambda: joint_step_of(EXAMPLE, state, 0, thing, None)), ("BadCell", thing))
        self.assertEqual(caught(lambda: joint_step_of(EXAMPLE, state, 1, 1, None)), ("BadJoint", "cells"))
        for deed, word in [(None, "deed"), (("goes", [3], 1, []), "cells"), (("goes", [0], 0, []), "still"),
                           (("grant", [0], [1]), "same")]:
            self.assertEqual(caught(lambda: joint_step_of(EXAMPLE, state, 1, 2, deed)), ("BadDeed", word))


class Steps(unittest.TestCase):

    def check(self, custom, joint):
        for counted in counteds():
            pairs = list(joint_steps(custom, joint, counted))
            keys = [key(pair) for pair in pairs]
            self.assertEqual(len(keys), len(set(keys)))
            self.assertEqual(set(keys), steps_by_deeds(custom, joint, counted))
            for pair in pairs:
                self.assertIsInstance(pair, tuple)
                self.assertTrue(all(step is None or isinstance(step, Step) for step in pair))

    def test_two_cells(self):
        for custom, joint in settled_joints(152, PAIR, 1, 0, 150):
            self.check(custom, joint)

    def test_three_cells(self):
        for a, b in ROW.couples:
            for custom, joint in settled_joints(153 + a * 3 + b, ROW, a, b, 25):
                self.check(custom, joint)

    def test_four_cells(self):
        for custom, joint in settled_joints(163, FORK, 2, 0, 20):
            self.check(custom, joint)

    def test_gifts_of_which_one_of_two_in_one_hand_sees_less(self):
        custom = Custom("stay", "die", "all", "all", "never")
        # The cells 2 and 3 lie in one hand; what both have already, or only one of them lacks, comes once.
        for one, other in [("2: a.o", "3: a.o"), ("2: n.o", "3: ano"), ("2: aao", "3: .ao"), ("2: .no", "3: aao")]:
            self.check(custom, JointView(look(FORK, one), look(FORK, other)))

    def test_from_the_start(self):
        for number in range(0, 192, 24):
            for land in (PAIR, ROW, RING):
                self.check(custom_at(number), start_joint(land, 1, 0))

    def test_turned_couples(self):
        for custom, joint in settled_joints(164, CHAIN, 3, 1, 12):
            pairs = {key(pair) for pair in joint_steps(custom, joint, EVERYTHING)}
            turned = {key(pair)[::-1] for pair in joint_steps(custom, joint.turned(), EVERYTHING)}
            self.assertEqual(pairs, turned)

    def test_counted_left_out_none_by_place_and_by_name(self):
        joint = joint_view(State(ROW, [0, 1, 2], [["none"] * 3, ["awake", "none", "none"], ["needed", "awake", "none"]]), 1, 2)
        usual = {key(pair) for pair in joint_steps(EXAMPLE, joint, Counted())}
        self.assertEqual({key(pair) for pair in joint_steps(EXAMPLE, joint)}, usual)
        self.assertEqual({key(pair) for pair in joint_steps(EXAMPLE, joint, None)}, usual)
        self.assertEqual({key(pair) for pair in joint_steps(custom=EXAMPLE, joint=joint, counted=None)}, usual)
        self.assertLess(usual, {key(pair) for pair in joint_steps(EXAMPLE, joint, EVERYTHING)})
        self.assertTrue(inspect.isgeneratorfunction(joint_steps))


class Seen(unittest.TestCase):

    def test_the_two_views(self):
        for custom, joint in [*settled_joints(165, ROW, 2, 1, 40), *settled_joints(166, RING, 1, 3, 15)]:
            for pair in joint_steps(custom, joint, EVERYTHING):
                views = [view if step is None else see_step(custom, view, step)
                         for view, step in zip((joint.first, joint.second), pair)]
                self.assertEqual(joint_seen(custom, joint, pair), JointView(*views))
                self.assertNotEqual(joint_seen(custom, joint, pair), joint)

    def test_what_is_no_joint_step(self):
        joint = joint_view(State(ROW, [0, 1, 2], [["none"] * 3, ["awake", "none", "none"], ["needed", "awake", "none"]]), 1, 2)
        history = History(ROW, EXAMPLE, [("goes", [1], 1, []), ("goes", [2], 2, []), ("grant", [1], [0])])
        for pair in (None, (), (None, None), (Leave([], [0]),), [Leave([], [0]), None], (Leave([], [0]), None, None),
                     ("leave", None), (Leave([], [2]), Come([1])), (Grant([0]), None), (None, Grant([1])),
                     (Go([1], [0]), Leave([], [1])), (Come([0, 2]), None), (None, Leave([], [0])), (Leave([0]), None),
                     (Give([0]), Give([0])), (Go([1]), None), True):
            self.assertEqual(caught(lambda: joint_seen(EXAMPLE, joint, pair)), ("NoJointStep", pair))
        for pair in (None, (None, None), (Grant([0]), None), (None, Give([0])), (Come([0]), Come([0]))):
            self.assertEqual(caught(lambda: joint_brought(history, 1, 2, pair)), ("NoJointStep", pair))


class Brought(unittest.TestCase):

    def check(self, history, first, second):
        custom, state = history.custom, history.state
        joint = joint_view(state, first, second)
        counting = [(counted, {key(pair) for pair in joint_steps(custom, joint, counted)}) for counted in counteds()]
        for pair in joint_steps(custom, joint, EVERYTHING):
            longer = joint_brought(history, first, second, pair)
            many = len(longer) - len(history)
            self.assertIn(many, (1, 2))
            self.assertEqual(longer.deeds[:len(history)], history.deeds)
            if many == 2:
                self.check_gathering(joint, state, longer.deeds[-2])
                self.assertEqual(joint_view(longer.state_at(len(longer) - 1), first, second), joint)
            ahead = longer.state_at(len(longer) - 1)
            self.assertEqual(joint_step_of(custom, ahead, first, second, longer.deeds[-1]), pair)
            self.assertEqual(joint_view(longer.state, first, second), joint_seen(custom, joint, pair))
            for counted, keys in counting:
                if key(pair) in keys:
                    for k in range(len(history), len(longer)):
                        self.assertIs(is_counted(counted, longer.state_at(k), longer.deeds[k]), True)

    def check_gathering(self, joint, state, deed):
        self.assertIsNone(deed_fault(state, deed))
        self.assertEqual(deed[0], "goes")
        self.assertTrue(set(deed[1]) <= set(joint.beyond))
        self.assertNotIn(deed[2], state.hands)
        self.assertTrue(all((a, b) in deed[3] for a, b in state.land.couples if b in deed[1]))
        for cell in joint.cells:
            self.assertIsNone(step_of(state, cell, deed))
        self.assertTrue(tuples_only(deed))

    def test_drawn_histories(self):
        source = random.Random(167)
        for number in range(0, 192, 4):
            land, custom = (PAIR, ROW, FORK)[number // 4 % 3], custom_at(number)
            history = History(land, custom, some_deeds(source, land, custom, source.randrange(7)))
            self.check(history, *source.choice(land.couples))

    def test_gifts_over_cells_of_several_hands(self):
        history = History(CHAIN, Custom("stay", "die", "none", "none", "never"),
                          [("goes", [4], 1, []), ("goes", [1], 2, []), ("goes", [2, 3], 3, [])])
        longer = joint_brought(history, 3, 2, (Grant([0, 1, 4]), Grant([0, 1, 4])))
        self.assertEqual([deed[0] for deed in longer.deeds[3:]], ["goes", "grant"])
        self.assertEqual(longer.deeds[-1], ("grant", (2, 3), (0, 1, 4)))
        self.check(history, 3, 2)

    def test_what_is_wrong(self):
        history = History(ROW, EXAMPLE)
        for thing in (-1, 3, *NO_NUMBERS):
            self.assertEqual(caught(lambda: joint_brought(history, thing, 9, None)), ("BadCell", thing))
            self.assertEqual(caught(lambda: joint_brought(history, 0, thing, None)), ("BadCell", thing))
        self.assertEqual(caught(lambda: joint_brought(history, 1, 1, None)), ("BadJoint", "cells"))
        self.assertEqual(caught(lambda: joint_brought(history, 1, 2, None)), ("NoJointStep", None))
