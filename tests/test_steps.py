"""[4.4]: steps."""

import unittest

from helpers import CHAIN, NO_NUMBERS, PAIR, ROW, caught, look, some_states, subsets
from landways.steps import Come, Give, Go, Grant, Leave, Step, step_fault
from landways.views import view_of

SINGLE = (Come, Grant, Give)
DOUBLE = (Leave, Go)
NO_LOTS = (None, 0, "01", [0, 0], [5], [-1], {0}, range(2), [[0]], [(0,)])


class Making(unittest.TestCase):

    def test_attributes(self):
        for step, kind, cells, others in [
                (Leave([2, 1], [4, 3]), "leave", (1, 2), (3, 4)), (Leave((), [0]), "leave", (), (0,)),
                (Leave([0]), "leave", (0,), ()), (Come([3, 0]), "come", (0, 3), ()),
                (Go([4, 1], [3, 2]), "go", (1, 4), (2, 3)), (Go([1]), "go", (1,), ()),
                (Grant((2, 0)), "grant", (0, 2), ()), (Give((4,)), "give", (4,), ())]:
            self.assertEqual((step.kind, step.cells, step.others), (kind, cells, others))
            self.assertIsInstance(step, Step)

    def test_by_name(self):
        self.assertEqual(Leave(cells=[], untold=[1]), Leave([], [1]))
        self.assertEqual(Go(cells=[0], held=[1]), Go([0], [1]))

    def test_wrong_cells(self):
        for thing in NO_LOTS:
            for kind in SINGLE:
                self.assertEqual(caught(lambda: kind(thing)), ("BadStep", "cells"))
            for kind in DOUBLE:
                self.assertEqual(caught(lambda: kind(thing, None)), ("BadStep", "cells"))
        for thing in NO_NUMBERS:
            for kind in SINGLE + DOUBLE:
                self.assertEqual(caught(lambda: kind([2, thing])), ("BadStep", "cells"))

    def test_wrong_others(self):
        for kind in DOUBLE:
            for thing in NO_LOTS:
                self.assertEqual(caught(lambda: kind([], thing)), ("BadStep", "others"))
            for thing in NO_NUMBERS:
                self.assertEqual(caught(lambda: kind([2], [2, thing])), ("BadStep", "others"))

    def test_empty(self):
        for kind in SINGLE:
            self.assertEqual(caught(lambda: kind(())), ("BadStep", "empty"))
        self.assertEqual(caught(lambda: Leave([], [])), ("BadStep", "empty"))
        self.assertEqual(caught(lambda: Leave([])), ("BadStep", "empty"))
        self.assertEqual(caught(lambda: Go([])), ("BadStep", "empty"))
        self.assertEqual(caught(lambda: Go([], [0])), ("BadStep", "empty"))

    def test_both(self):
        for kind in DOUBLE:
            self.assertEqual(caught(lambda: kind([1, 2], [3, 2])), ("BadStep", "both"))

    def test_lists_that_are_changed_later(self):
        cells, others = [2, 1], [3]
        step = Leave(cells, others)
        cells.append(4)
        others.clear()
        self.assertEqual((step.cells, step.others), ((1, 2), (3,)))

    def test_equal(self):
        self.assertTrue(Leave([1, 2], [3, 0]) == Leave((2, 1), (0, 3)))
        self.assertFalse(Leave([1]) == Leave([2]))
        self.assertFalse(Leave([1]) == Leave([1], [2]))
        self.assertFalse(Leave([1]) == Go([1]))
        self.assertFalse(Go([1], [2]) == Leave([1], [2]))
        self.assertTrue(Go([1], [2]) == Go((1,), (2,)))
        self.assertFalse(Go([1], [2]) == Go([1], [3]))
        kinds = [kind([1]) for kind in SINGLE + DOUBLE]
        for k, one in enumerate(kinds):
            for m, other in enumerate(kinds):
                self.assertIs(one == other, k == m)
            for thing in (None, "leave", (one.kind, one.cells, one.others), 1):
                self.assertFalse(one == thing)
        for kind in SINGLE:
            self.assertTrue(kind([2, 1]) == kind((1, 2)))
            self.assertFalse(kind([2]) == kind([1]))


class Faults(unittest.TestCase):

    VIEW = look(CHAIN, "2: oa.s")

    def fault(self, step):
        return step_fault(self.VIEW, step)

    def test_steps_that_can_be_done(self):
        for step in (Leave([0]), Leave([0, 4], [1, 3]), Leave([], [3]), Come([1]), Come([1, 3]), Go([2]), Go([2, 0], [3]),
                     Go([2, 0, 4], [1, 3]), Go([2, 0, 4]), Grant([1, 3]), Give([1, 3]), Give([3])):
            self.assertIsNone(self.fault(step))

    def test_what_is_no_step(self):
        for thing in (None, "leave", ("leave", (0,), ()), 0, True, [Leave([0])], Leave, self.VIEW):
            self.assertEqual(self.fault(thing), "step")

    def test_wrong_cells(self):
        for step in (Leave([2]), Leave([0, 2]), Leave([1]), Leave([1], [0]), Leave([0, 1]), Come([0]), Come([2]),
                     Come([1, 4]), Go([0]), Go([0, 4], [1]), Go([2, 1]), Go([2, 0, 3], [4]), Grant([2]), Grant([0]),
                     Grant([1, 0]), Give([2]), Give([4]), Give([1, 4])):
            self.assertEqual(self.fault(step), "cells")

    def test_wrong_others(self):
        for step in (Leave([0], [4]), Leave([0], [1, 2]), Leave([], [2]), Go([2], [0]), Go([2], [1, 4]), Go([2, 0], [4])):
            self.assertEqual(self.fault(step), "others")

    def test_cells_that_the_land_has_not(self):
        view = look(PAIR, "0: .")
        self.assertEqual(step_fault(view, Come([4])), "cells")
        self.assertEqual(step_fault(view, Leave([3])), "cells")
        self.assertEqual(step_fault(view, Leave([], [3])), "others")
        self.assertEqual(step_fault(view, Go([0], [2])), "others")
        self.assertEqual(step_fault(view, Grant([2])), "cells")

    def test_own_cells_behind(self):
        for step, own in [(Leave([0]), (2, 4)), (Leave([0, 4], [1]), (2,)), (Leave([], [1]), (0, 2, 4)),
                          (Come([3]), (0, 2, 3, 4)), (Come([1, 3]), (0, 1, 2, 3, 4)), (Go([2]), (2,)),
                          (Go([2, 0], [3]), (0, 2, 3)), (Go([4, 2, 0]), (0, 2, 4)), (Go([2], [3, 1]), (1, 2, 3)),
                          (Grant([3]), (0, 2, 4)), (Give([1]), (0, 2, 4))]:
            self.assertEqual(step.own_behind(self.VIEW), own)
        self.assertEqual(Come([1]).own_behind(look(ROW, "0: ..")), (0, 1))

    def test_each_step_of_each_view(self):
        for state in some_states(42, 24):
            cells = range(state.land.cells)
            for cell in cells:
                view = view_of(state, cell)
                own, out = set(view.own), set(view.outside)
                for lot in subsets(cells)[1:]:
                    leaves = set(lot) <= own - {cell}
                    self.assertEqual(step_fault(view, Leave(lot)), None if leaves else "cells")
                    goes = cell in lot and set(lot) <= own
                    self.assertEqual(step_fault(view, Go(lot)), None if goes else "cells")
                    for kind in SINGLE:
                        self.assertEqual(step_fault(view, kind(lot)), None if set(lot) <= out else "cells")
                    self.assertEqual(step_fault(view, Leave([], lot)), None if set(lot) <= out else "others")
