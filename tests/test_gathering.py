"""[4.9]: deeds that gather cells, and deeds that do a step."""

import random
import unittest

from helpers import CHAIN, NO_NUMBERS, PAIR, RING, ROW, caught, some_deeds, some_states, subsets, tuples_only
from landways.counted import counteds
from landways.customs import Custom, custom_at
from landways.deeds import deed_fault, is_counted, shaped
from landways.gathering import bring_step, gather_deeds, stepped_history
from landways.histories import History
from landways.listing import plain_steps
from landways.playing import after, settled_state
from landways.seeing import see_step, step_of
from landways.states import State, start_state
from landways.steps import Come, Give, Go, Grant, Leave
from landways.views import view_of
from test_listing import each_step

BARE = Custom("die", "die", "none", "none", "never")
STATE = State(CHAIN, [5, 6, 5, 6, 7], [["none"] * 5] * 5)


def told_of(land, moved, untold=()):
    """All couples of moved cells but the untold ones."""
    return tuple((a, b) for a, b in land.couples if b in moved and (a, b) not in untold)


class Gathering(unittest.TestCase):

    def test_cells_of_one_hand(self):
        for cells in ([0, 2], (2, 0), [1, 3], [4]):
            self.assertEqual(gather_deeds(STATE, cells), ())
        self.assertEqual(gather_deeds(start_state(ROW), [2, 0, 1]), ())

    def test_each_lot_of_each_state(self):
        for state in some_states(51, 60):
            for cells in subsets(range(state.land.cells))[1:]:
                deeds = gather_deeds(state, list(cells))
                self.assertTrue(tuples_only(deeds))
                self.assertEqual(len(deeds), 0 if cells in state.lots else 1)
                for deed in deeds:
                    self.assertIsNone(deed_fault(state, deed))
                    self.assertEqual((deed[0], deed[1], deed), ("goes", cells, shaped(deed)))
                    self.assertNotIn(deed[2], state.hands)
                    self.assertEqual(deed[3], told_of(state.land, cells))
                    self.assertIn(cells, after(BARE, state, deed).lots)

    def test_wrong_cells(self):
        for thing in (None, 0, "01", [], (), [0, 0], [5], [-1], {0}, range(2)):
            self.assertEqual(caught(lambda: gather_deeds(STATE, thing)), ("BadCells", "cells"), thing)
        for thing in NO_NUMBERS:
            self.assertEqual(caught(lambda: gather_deeds(STATE, [thing])), ("BadCells", "cells"))


class Bringing(unittest.TestCase):

    def test_gifts_over_cells_of_several_hands(self):
        deeds = bring_step(STATE, 0, Grant([1, 4]))
        self.assertEqual([deed[0] for deed in deeds], ["goes", "grant"])
        self.assertEqual(deeds[0][1], (1, 4))
        self.assertEqual(deeds[1], ("grant", (0,), (1, 4)))
        self.assertEqual(bring_step(STATE, 0, Give([3, 1])), (("gives", (0,), (1, 3)),))
        self.assertEqual(len(bring_step(STATE, 0, Give([3, 4]))), 2)

    def test_each_step_of_each_settled_state(self):
        source = random.Random(52)
        for k, state in enumerate(some_states(53, 150)):
            one = custom_at(source.randrange(192))
            state = settled_state(one, state)
            cell = k % state.land.cells
            view = view_of(state, cell)
            steps = each_step(view)
            for step in source.sample(steps, min(25, len(steps))):
                self.check(one, state, cell, step)

    def check(self, one, state, cell, step):
        view = view_of(state, cell)
        deeds = bring_step(state, cell, step)
        self.assertTrue(tuples_only(deeds))
        self.assertIn(len(deeds), (1, 2))
        for place, deed in enumerate(deeds):
            self.assertIsNone(deed_fault(state, deed))
            if place == len(deeds) - 1:
                self.assertEqual(step_of(state, cell, deed), None if step == Go(view.own) else step)
            else:
                self.assertEqual(deed[0], "goes")
                self.assertTrue(set(deed[1]) <= set(view.outside))
                self.assertIsNone(step_of(state, cell, deed))
            if deed[0] == "goes":
                moved = [b for b in deed[1] if state.hands[b] != deed[2]]
                untold = [(cell, b) for b in step.others] if step.kind == "leave" else []
                self.assertEqual(deed[3], told_of(state.land, moved, untold))
            state = after(one, state, deed)
        self.assertEqual(view_of(state, cell), see_step(one, view, step))

    def test_deeds_of_counted_plain_steps_are_counted(self):
        for k, state in enumerate(some_states(54, 48, (PAIR, ROW, RING))):
            one = custom_at(k * 4)
            state = settled_state(one, state)
            cell = k % state.land.cells
            for counted in counteds():
                for step in plain_steps(one, view_of(state, cell), counted):
                    now = state
                    for deed in bring_step(state, cell, step):
                        self.assertIs(is_counted(counted, now, deed), True)
                        now = after(one, now, deed)

    def test_go_with_all_own_cells(self):
        deeds = bring_step(STATE, 0, Go([0, 2]))
        self.assertEqual(len(deeds), 1)
        self.assertIsNone(step_of(STATE, 0, deeds[0]))
        self.assertEqual(view_of(after(BARE, STATE, deeds[0]), 0), view_of(STATE, 0))

    def test_what_is_wrong(self):
        for thing in (-1, 5, *NO_NUMBERS):
            self.assertEqual(caught(lambda: bring_step(STATE, thing, None)), ("BadCell", thing))
        for step, word in [(None, "step"), (("come", (1,)), "step"), (Come([2]), "cells"), (Leave([0]), "cells"),
                           (Leave([2], [0]), "others"), (Go([2]), "cells"), (Go([0], [2]), "others"),
                           (Grant([0]), "cells"), (Give([2]), "cells")]:
            self.assertEqual(caught(lambda: bring_step(STATE, 0, step)), ("BadStep", word))


class Stepped(unittest.TestCase):

    ONE = Custom("needed stay", "sleep", "none", "need", "never")
    STEPS = (Leave([0, 1]), Come([1]), Leave([1], [0]), Leave([], [1]))

    def test_the_example(self):
        history = stepped_history(History(ROW, self.ONE), 2, self.STEPS)
        self.assertEqual(len(history), 4)
        self.assertEqual(history.first_shut(2), 4)
        self.assertEqual([step_of(history.state_at(k), 2, deed) for k, deed in enumerate(history)], list(self.STEPS))

    def test_no_steps(self):
        history = History(ROW, self.ONE, [("goes", [1], 1, [])])
        self.assertEqual(stepped_history(history, 0, []), history)
        self.assertEqual(stepped_history(history, 0, ()), history)

    def test_behind_drawn_histories(self):
        source = random.Random(55)
        for number in range(0, 192, 3):
            one, land = custom_at(number), (PAIR, ROW, RING, CHAIN)[number % 4]
            past = History(land, one, some_deeds(source, land, one, 5))
            cell = source.randrange(land.cells)
            view, steps, expected = view_of(past.state, cell), [], list(past.deeds)
            state = past.state
            for _ in range(5):
                steps.append(source.choice(each_step(view)))
                view = see_step(one, view, steps[-1])
                for deed in bring_step(state, cell, steps[-1]):
                    expected.append(deed)
                    state = after(one, state, deed)
            history = stepped_history(past, cell, steps)
            self.assertEqual(view_of(history.state, cell), view)
            self.assertEqual((history.land, history.custom, list(history.deeds)), (land, one, expected))
            self.assertEqual(len(steps), 5)

    def test_what_is_wrong(self):
        past = History(ROW, self.ONE)
        for thing in (-1, 3, *NO_NUMBERS):
            self.assertEqual(caught(lambda: stepped_history(past, thing, [None])), ("BadCell", thing))
        self.assertEqual(caught(lambda: stepped_history(past, 2, [Leave([0, 1]), None])), ("BadStep", "step"))
        self.assertEqual(caught(lambda: stepped_history(past, 2, [Leave([0, 1]), Leave([1])])), ("BadStep", "cells"))
        self.assertEqual(caught(lambda: stepped_history(past, 2, [Leave([1]), Leave([0], [2])])), ("BadStep", "others"))

    def test_too_many_deeds(self):
        past = History(PAIR, BARE, [("goes", [0], 1 - k % 2, []) for k in range(9999)])
        self.assertEqual(len(stepped_history(past, 0, [Come([1])])), 10000)
        steps = [Come([1]), Leave([1])]
        self.assertEqual(caught(lambda: stepped_history(past, 0, steps)), ("BadHistory", 10000, "many"))
        self.assertEqual(caught(lambda: stepped_history(past, 0, [*steps, Leave([1])])), ("BadStep", "cells"))
