"""[7.5]: joint views."""

import inspect
import unittest

from helpers import CHAIN, FORK, LANDS, NO_NUMBERS, PAIR, RING, ROW, caught, look, some_states, tuples_only
from landways.joint import JointView, all_joint_views, joint_view, start_joint
from landways.lands import Land
from landways.states import start_state
from landways.views import all_views, start_view, view_of

NO_VIEWS = (None, 0, "2: oo", True, (), start_state(ROW), ROW)


def joined(land, one, other):
    """The joint view of the views with these texts."""
    return JointView(look(land, one), look(land, other))


class Making(unittest.TestCase):

    def test_attributes(self):
        first, second = look(ROW, "2: .n"), look(ROW, "1: oa")
        joint = JointView(first, second)
        self.assertEqual((joint.first, joint.second, joint.land, joint.cells), (first, second, ROW, (2, 1)))
        self.assertTrue({"first", "second", "land", "cells"} <= set(vars(joint)))

    def test_views(self):
        view = look(ROW, "2: .n")
        for thing in NO_VIEWS:
            self.assertEqual(caught(lambda: JointView(thing, view)), ("BadJoint", "views"))
            self.assertEqual(caught(lambda: JointView(view, thing)), ("BadJoint", "views"))
            self.assertEqual(caught(lambda: JointView(thing, thing)), ("BadJoint", "views"))

    def test_land(self):
        other = Land(3, [(0, 1), (1, 2)], [1])
        self.assertEqual(caught(lambda: JointView(look(ROW, "2: .n"), look(other, "1: oa"))), ("BadJoint", "land"))
        self.assertEqual(caught(lambda: JointView(look(ROW, "1: .n"), look(other, "1: .n"))), ("BadJoint", "land"))
        same = Land(3, [(2, 1), (1, 0)], [0])
        self.assertEqual(JointView(look(ROW, "2: .n"), look(same, "1: oa")), joined(ROW, "2: .n", "1: oa"))

    def test_cells(self):
        for one, other in [("2: .n", "2: .n"), ("2: .n", "2: oo"), ("1: oo", "1: ..")]:
            self.assertEqual(caught(lambda: joined(ROW, one, other)), ("BadJoint", "cells"))

    def test_own(self):
        for one, other in [("2: .o", "1: .."), ("2: ..", "1: oo"), ("2: oo", "1: .o"), ("2: o.", "1: o."), ("2: so", "1: ao")]:
            self.assertEqual(caught(lambda: joined(ROW, one, other)), ("BadJoint", "own"))
        for one, other in [("2: oo", "1: os"), ("2: ..", "1: o."), ("2: o.", "1: .."), ("2: .o", "1: as"), ("2: an", "1: na")]:
            self.assertIsNone(caught(lambda: joined(ROW, one, other)))
        self.assertEqual(caught(lambda: joined(RING, "0: oa.", "3: .o.")), ("BadJoint", "own"))

    def test_the_first_of_several_words(self):
        other = Land(3, [(0, 1), (1, 2)], [1])
        self.assertEqual(caught(lambda: JointView(look(ROW, "2: .o"), look(other, "2: oo"))), ("BadJoint", "land"))
        self.assertEqual(caught(lambda: joined(ROW, "2: .o", "2: oo")), ("BadJoint", "cells"))

    def test_equal(self):
        joint = joined(ROW, "2: .n", "1: oa")
        self.assertTrue(joint == joined(ROW, "2: .n", "1: oa"))
        self.assertFalse(joint == joined(ROW, "2: .n", "1: on"))
        self.assertFalse(joint == joined(ROW, "2: .a", "1: oa"))
        self.assertFalse(joint == joint.turned())
        for thing in (*NO_VIEWS, (joint.first, joint.second), joint.first):
            self.assertFalse(joint == thing)

    def test_turned(self):
        joint = joined(ROW, "2: .n", "1: oa")
        self.assertEqual(joint.turned(), joined(ROW, "1: oa", "2: .n"))
        self.assertEqual(joint.turned().turned(), joint)
        self.assertEqual(joint.cells, (2, 1))


class Asking(unittest.TestCase):

    def asked(self, land, one, other):
        joint = joined(land, one, other)
        return (joint.alike, joint.beyond, joint.both_shut, joint.one_shut, joint.crossed, joint.needs, joint.doubled)

    def test_some_by_hand(self):
        self.assertEqual(self.asked(ROW, "2: oo", "1: oo"), (True, (), False, False, False, False, ()))
        self.assertEqual(self.asked(ROW, "2: .o", "1: .s"), (True, (0,), True, False, False, False, ()))
        self.assertEqual(self.asked(ROW, "2: ao", "1: no"), (True, (0,), False, False, False, False, ()))
        self.assertEqual(self.asked(ROW, "2: .n", "1: oa"), (False, (), False, True, True, False, ()))
        self.assertEqual(self.asked(ROW, "1: oa", "2: .n"), (False, (), False, False, True, False, ()))
        self.assertEqual(self.asked(ROW, "2: nn", "1: an"), (False, (0,), False, False, True, True, (0,)))
        self.assertEqual(self.asked(ROW, "2: ..", "1: ..")[:4], (False, (0,), True, False))
        self.assertEqual(self.asked(ROW, "2: a.", "1: aa")[3:], (True, False, False, (0,)))
        self.assertEqual(self.asked(CHAIN, "2: aaoa", "4: nn.n"), (False, (0, 1), False, False, False, False, (0, 1)))

    def test_against_the_states(self):
        for state in some_states(141, 150):
            land = state.land
            for a, b in land.couples:
                joint = joint_view(state, a, b)
                self.assertEqual((joint.first, joint.second), (view_of(state, a), view_of(state, b)))
                rights = {c: {d for d in range(land.cells) if state.standing(c, d) in ("awake", "needed")} for c in (a, b)}
                alike = state.hand(a) == state.hand(b)
                beyond = tuple(c for c in range(land.cells) if state.hand(c) not in (state.hand(a), state.hand(b)))
                self.assertIs(joint.alike, alike)
                self.assertEqual(joint.beyond, beyond)
                self.assertIs(joint.both_shut, not state.is_open(a) and not state.is_open(b))
                self.assertIs(joint.one_shut, not state.is_open(a) and state.is_open(b))
                self.assertIs(joint.crossed, b in rights[a] and a in rights[b])
                self.assertIs(joint.needs, state.standing(a, b) == state.standing(b, a) == "needed")
                doubled = () if alike else tuple(c for c in beyond if c in rights[a] and c in rights[b])
                self.assertEqual(joint.doubled, doubled)
                self.assertTrue(tuples_only((joint.beyond, joint.doubled, joint.cells)))

    def test_what_is_no_two_cells(self):
        state = start_state(ROW)
        for thing in (-1, 3, *NO_NUMBERS):
            for ask in (lambda one, other: joint_view(state, one, other), lambda one, other: start_joint(ROW, one, other),
                        lambda one, other: list(all_joint_views(ROW, one, other))):
                self.assertEqual(caught(lambda: ask(thing, 9)), ("BadCell", thing))
                self.assertEqual(caught(lambda: ask(0, thing)), ("BadCell", thing))
                self.assertEqual(caught(lambda: ask(1, 1)), ("BadJoint", "cells"))


class All(unittest.TestCase):

    def test_start(self):
        for land in LANDS:
            for a, b in land.couples:
                self.assertEqual(start_joint(land, a, b), JointView(start_view(land, a), start_view(land, b)))
                self.assertEqual(start_joint(land, a, b), joint_view(start_state(land), a, b))

    def test_numbers_of_them(self):
        for land, pairs in [(PAIR, PAIR.couples), (ROW, ROW.couples), (FORK, [(0, 1), (3, 2)])]:
            many = 4 * 13 ** (land.cells - 2) + 9 * 21 ** (land.cells - 2)
            for a, b in pairs:
                joints = list(all_joint_views(land, a, b))
                keys = [(joint.first.number, joint.second.number) for joint in joints]
                self.assertEqual((len(keys), keys), (many, sorted(set(keys))))
                self.assertEqual({joint.cells for joint in joints}, {(a, b)})

    def test_just_those_that_can_be_made(self):
        for a, b in ROW.couples:
            found = list(all_joint_views(ROW, a, b))
            for first in all_views(ROW, a):
                for second in all_views(ROW, b):
                    told = caught(lambda: JointView(first, second))
                    self.assertEqual(told is None, any(j.first == first and j.second == second for j in found))

    def test_it_is_a_generator(self):
        self.assertTrue(inspect.isgeneratorfunction(all_joint_views))
        self.assertEqual(next(all_joint_views(CHAIN, 3, 1)), start_joint(CHAIN, 3, 1))
