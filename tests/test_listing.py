"""[4.8]: plain steps."""

import inspect
import random
import unittest

from helpers import CHAIN, PAIR, RING, ROW, caught, look, subsets
from landways.counted import Counted, counteds
from landways.customs import Custom, custom_at
from landways.lands import Land
from landways.listing import mortal_rights, number_of_steps, plain_step, plain_steps
from landways.seeing import is_settled_view, see_step, settled_view
from landways.steps import Come, Give, Go, Grant, Leave, step_fault
from landways.views import all_views

LINE = Land(4, [(0, 1), (1, 2), (2, 3)], [0])
ALL = Counted(True, True, True)


def custom(**given):
    return Custom(**{**dict(untold="stay", joined="die", sold="none", kept="none", ends="never"), **given})


def row(step):
    return (step.kind, step.cells, step.others)


def rows(one, view, counted=None):
    return [row(step) for step in plain_steps(one, view, counted)]


def mortal(one, view):
    """The mortal rights, as [4.8] tells them."""
    return [b for b in view.rights
            if one.untold == "die" or (one.untold == "needed stay" and view.standings[b] == "awake")]


def is_plain(one, view, step):
    """Whether the step is plain, as [4.8] tells it."""
    if step.kind == "leave":
        return set(step.others) <= set(mortal(one, view))
    if step.kind == "go":
        return step.cells != view.own
    if step.kind == "grant":
        return "awake" not in [view.standings[b] for b in step.cells]
    return step.kind == "come" or set(step.cells) <= set(view.rights)


def each_step(view):
    """All steps that can be done from the view, class by class, by cells, then by others."""
    lots = subsets(range(view.land.cells))
    out = [lot for lot in lots if set(lot) <= set(view.outside)]
    steps = [Leave(cells, others) for cells in lots for others in out
             if (cells or others) and set(cells) <= set(view.own) - {view.cell}]
    steps += [Come(cells) for cells in out[1:]]
    steps += [Go(cells, held) for cells in lots for held in out if view.cell in cells and set(cells) <= set(view.own)]
    return steps + [Grant(cells) for cells in out[1:]] + [Give(cells) for cells in out[1:]]


def is_let(counted, step):
    return {"leave": counted.untold or step.others == (), "grant": counted.grants,
            "give": counted.giving_up}.get(step.kind, True)


class Mortal(unittest.TestCase):

    def test_by_the_word_of_untold(self):
        view = look(CHAIN, "3: an.a")
        for word, cells in [("stay", ()), ("die", (0, 1, 4)), ("needed stay", (0, 4))]:
            self.assertEqual(mortal_rights(custom(untold=word), view), cells)
        self.assertEqual(mortal_rights(custom(untold="die"), look(CHAIN, "3: os.o")), ())


class Listing(unittest.TestCase):

    def test_the_order(self):
        view = look(CHAIN, "1: oan.")
        self.assertEqual(rows(custom(untold="needed stay"), view, ALL), [
            ("leave", (), (2,)), ("leave", (0,), ()), ("leave", (0,), (2,)),
            ("come", (2,), ()), ("come", (3,), ()), ("come", (4,), ()), ("come", (2, 3), ()), ("come", (2, 4), ()),
            ("come", (3, 4), ()), ("come", (2, 3, 4), ()),
            ("go", (1,), ()), ("go", (1,), (2,)), ("go", (1,), (3,)), ("go", (1,), (4,)), ("go", (1,), (2, 3)),
            ("go", (1,), (2, 4)), ("go", (1,), (3, 4)), ("go", (1,), (2, 3, 4)),
            ("grant", (3,), ()), ("grant", (4,), ()), ("grant", (3, 4), ()),
            ("give", (2,), ()), ("give", (3,), ()), ("give", (2, 3), ())])

    def test_lots_of_going_cells(self):
        view = look(LINE, "1: oso")
        self.assertEqual([one[1] for one in rows(custom(), view) if one[0] == "go"],
                         [(1,), (0, 1), (1, 2), (1, 3), (0, 1, 2), (0, 1, 3), (1, 2, 3)])

    def test_a_cell_alone(self):
        self.assertEqual(rows(custom(), look(PAIR, "0: ."), ALL), [("come", (1,), ()), ("grant", (1,), ())])
        self.assertEqual(rows(custom(untold="die"), look(PAIR, "0: n"), ALL),
                         [("leave", (), (1,)), ("come", (1,), ()), ("grant", (1,), ()), ("give", (1,), ())])

    def test_sorts_that_are_not_counted(self):
        view = look(CHAIN, "1: oan.")
        one = custom(untold="die")
        for counted in counteds():
            kinds = [step.kind for step in plain_steps(one, view, counted)]
            self.assertEqual("grant" in kinds, counted.grants)
            self.assertEqual("give" in kinds, counted.giving_up)
            untold = [step for step in plain_steps(one, view, counted) if step.kind == "leave" and step.others]
            self.assertEqual(len(untold), 6 if counted.untold else 0)

    def test_left_out_none_by_place_and_by_name(self):
        view, one = look(CHAIN, "1: oan."), custom(untold="die")
        usual = rows(one, view, Counted())
        self.assertEqual([row(step) for step in plain_steps(one, view)], usual)
        self.assertEqual([row(step) for step in plain_steps(one, view, None)], usual)
        self.assertEqual([row(step) for step in plain_steps(custom=one, view=view, counted=None)], usual)
        self.assertEqual(number_of_steps(one, view), len(usual))
        self.assertEqual(number_of_steps(one, view, counted=None), len(usual))
        self.assertNotEqual(number_of_steps(one, view, ALL), len(usual))

    def test_all_views_against_the_words(self):
        for number in range(0, 192, 5):
            one = custom_at(number)
            for land, cell in [(PAIR, number % 2), (ROW, number % 3)]:
                for view in all_views(land, cell):
                    self.compare(one, view)

    def test_views_of_larger_lands(self):
        source = random.Random(48)
        for number in range(0, 192, 3):
            land = (RING, CHAIN)[number % 2]
            for view in source.sample(list(all_views(land, number % land.cells)), 3):
                self.compare(custom_at(number), view)

    def compare(self, one, view):
        plain = [step for step in each_step(view) if is_plain(one, view, step)]
        self.assertEqual(mortal_rights(one, view), tuple(mortal(one, view)))
        for counted in counteds():
            expected = [row(step) for step in plain if is_let(counted, step)]
            self.assertEqual(rows(one, view, counted), expected)
            self.assertEqual(number_of_steps(one, view, counted), len(expected))
        for step in plain:
            self.assertIsNone(step_fault(view, step))
            self.assertEqual(plain_step(one, view, step), step)
            if is_settled_view(one, view):
                self.assertNotEqual(see_step(one, view, step), view)

    def test_it_is_a_generator(self):
        self.assertTrue(inspect.isgeneratorfunction(plain_steps))
        self.assertEqual(next(plain_steps(custom(), look(ROW, "2: oo"))), Leave([0]))


class PlainStep(unittest.TestCase):

    def test_leave(self):
        view = look(CHAIN, "1: oan.")
        for word, others in [("stay", ()), ("die", (2, 3)), ("needed stay", (2,))]:
            step = plain_step(custom(untold=word), view, Leave([0], [2, 3, 4]))
            self.assertEqual(step, Leave([0], others))
        self.assertIsNone(plain_step(custom(untold="die"), view, Leave([], [4])))
        self.assertIsNone(plain_step(custom(untold="needed stay"), view, Leave([], [3, 4])))
        self.assertIsNone(plain_step(custom(), view, Leave([], [2, 3, 4])))
        self.assertEqual(plain_step(custom(), view, Leave([0], [2])), Leave([0]))

    def test_go_with_all_own_cells(self):
        view = look(CHAIN, "1: oan.")
        self.assertEqual(plain_step(custom(), view, Go([0, 1], [3, 4])), Come([3, 4]))
        self.assertIsNone(plain_step(custom(), view, Go([0, 1])))
        self.assertEqual(plain_step(custom(), view, Go([1], [2])), Go([1], [2]))
        self.assertEqual(plain_step(custom(), view, Go([1])), Go([1]))
        self.assertIsNone(plain_step(custom(), look(PAIR, "0: a"), Go([0])))

    def test_gifts(self):
        view = look(CHAIN, "1: oan.")
        self.assertEqual(plain_step(custom(), view, Grant([2, 3, 4])), Grant([3, 4]))
        self.assertIsNone(plain_step(custom(), view, Grant([2])))
        self.assertEqual(plain_step(custom(), view, Give([2, 3, 4])), Give([2, 3]))
        self.assertIsNone(plain_step(custom(), view, Give([4])))
        self.assertEqual(plain_step(custom(), view, Come([2, 4])), Come([2, 4]))

    def test_it_does_the_same(self):
        source = random.Random(49)
        for number in range(0, 192, 2):
            one = custom_at(number)
            land = (ROW, RING, CHAIN)[number // 2 % 3]
            for view in source.sample(list(all_views(land, number % land.cells)), 4):
                steps = each_step(view)
                for step in source.sample(steps, min(30, len(steps))):
                    plain = plain_step(one, view, step)
                    if plain is None:
                        self.assertEqual(see_step(one, view, step), settled_view(one, view))
                    else:
                        self.assertEqual(see_step(one, view, step), see_step(one, view, plain))
                        self.assertTrue(is_plain(one, view, plain))
                        self.assertIn(plain, list(plain_steps(one, view, ALL)))

    def test_steps_that_cannot_be_done(self):
        view = look(CHAIN, "1: oan.")
        for step, word in [(None, "step"), ("leave", "step"), (Leave([1]), "cells"), (Leave([0], [1]), "others"),
                           (Come([0]), "cells"), (Go([1, 2]), "cells"), (Go([1], [0]), "others"), (Grant([1]), "cells"),
                           (Give([0]), "cells")]:
            self.assertEqual(caught(lambda: plain_step(custom(), view, step)), ("BadStep", word))
