"""[8.3]: the same deeds under two customs."""

import random
import unittest

from helpers import (FORK, NO_NUMBERS, PAIR, RING, ROW, VEE, caught, some_deeds, tuples_only)
from landways.counted import Counted, counteds
from landways.customs import Custom, custom_at
from landways.deeds import is_counted
from landways.histories import MOST_DEEDS, History
from landways.twinruns import TwinRun
from landways.twinviews import MEASURES, TwinView, twin_start
from landways.views import view_of
from test_twinviews import NO_MEASURES

BARE = Custom("stay", "die", "none", "none", "never")
KIND = Custom("stay", "die", "all", "all", "never")
DEEDS = [("goes", [2], 1, []), ("grant", [2], [1, 0]), ["goes", (2, 1), 5, [[0, 2]]]]


def drawn_runs(seed, step=1, many=6):
    """Runs of drawn deeds, customs and lands."""
    source = random.Random(seed)
    for number in range(0, 192, step):
        land = (PAIR, ROW, VEE, FORK, RING)[number % 5]
        one, other = custom_at(number), custom_at(source.randrange(192))
        yield TwinRun(land, one, other, some_deeds(source, land, one, source.randrange(many + 1)))


class Runs(unittest.TestCase):

    def test_attributes(self):
        run = TwinRun(ROW, BARE, KIND, DEEDS)
        self.assertEqual((run.land, run.one, run.other), (ROW, BARE, KIND))
        self.assertEqual(run.deeds, (("goes", (2,), 1, ()), ("grant", (2,), (0, 1)), ("goes", (1, 2), 5, ((0, 2),))))
        self.assertEqual((run.first, run.second), (History(ROW, BARE, DEEDS), History(ROW, KIND, DEEDS)))
        self.assertTrue(tuples_only(run.deeds))
        self.assertTrue({"land", "one", "other", "deeds", "first", "second"} <= set(vars(run)))
        self.assertEqual(TwinRun(land=ROW, one=BARE, other=KIND, deeds=DEEDS), run)

    def test_without_deeds(self):
        run = TwinRun(ROW, BARE, KIND)
        self.assertEqual((len(run), run.deeds), (0, ()))
        for cell in range(3):
            self.assertEqual(list(run.twins(cell)), [twin_start(ROW, cell)])
            self.assertEqual(run.twin(cell), twin_start(ROW, cell))
        for measure in MEASURES:
            self.assertEqual((run.differing(measure), run.differs_at(measure)), ((), None))
        for counted in counteds():
            self.assertIs(run.is_counted(counted), True)

    def test_twins(self):
        for run in drawn_runs(321):
            states = list(zip(run.first.states(), run.second.states()))
            for cell in range(run.land.cells):
                twins = list(run.twins(cell))
                self.assertEqual(twins, [TwinView(view_of(one, cell), view_of(other, cell)) for one, other in states])
                self.assertEqual(run.twin(cell), twins[-1])

    def test_differing(self):
        for run in drawn_runs(322):
            for measure in MEASURES:
                told = [[cell for cell in range(run.land.cells)
                         if TwinView(view_of(one, cell), view_of(other, cell)).differs(measure)]
                        for one, other in zip(run.first.states(), run.second.states())]
                self.assertEqual(run.differing(measure), tuple(told[-1]))
                self.assertEqual(run.differs_at(measure), next((many for many, cells in enumerate(told) if cells), None))

    def test_differing_by_hand(self):
        run = TwinRun(ROW, BARE, KIND, [("goes", [0, 2], 1, []), ("goes", [1], 1, []), ("goes", [2], 2, [])])
        self.assertEqual([run.until(many).differing("standing") for many in range(4)], [(), (0, 1, 2), (), (0, 1, 2)])
        self.assertEqual([run.until(many).differing("open") for many in range(4)], [(), (1, 2), (), (2,)])
        self.assertEqual([run.until(many).differs_at("open") for many in range(4)], [None, 1, 1, 1])
        self.assertEqual(run.differing("passing"), (0, 1, 2))

    def test_until_then_and_turned(self):
        for run in drawn_runs(323, 3):
            for many in range(len(run) + 1):
                short = run.until(many)
                self.assertEqual(short, TwinRun(run.land, run.one, run.other, run.deeds[:many]))
                self.assertEqual(short.then(*run.deeds[many:]), run)
                self.assertEqual(short.then(), short)
                self.assertIsInstance(short, TwinRun)
            turned = run.turned()
            self.assertEqual((turned.one, turned.other, turned.deeds), (run.other, run.one, run.deeds))
            self.assertEqual((turned.first, turned.second), (run.second, run.first))
            for cell in range(run.land.cells):
                self.assertEqual(turned.twin(cell), run.twin(cell).turned())

    def test_counted_in_both_histories(self):
        for run in drawn_runs(324):
            for counted in counteds():
                expected = all(is_counted(counted, history.state_at(k), deed)
                               for history in (run.first, run.second) for k, deed in enumerate(run.deeds))
                self.assertIs(run.is_counted(counted), expected)

    def test_untold_in_one_history_alone(self):
        run = TwinRun(PAIR, KIND, BARE, [("goes", [1], 1, []), ("goes", [1], 2, [])])
        told = Counted(untold=False)
        self.assertEqual([run.first.is_counted(told), run.second.is_counted(told)], [False, True])
        self.assertIs(run.is_counted(told), False)
        self.assertIs(run.turned().is_counted(told), False)
        self.assertIs(run.is_counted(Counted()), True)

    def test_equal_runs(self):
        run = TwinRun(ROW, BARE, KIND, DEEDS)
        self.assertEqual(run, TwinRun(ROW, BARE, KIND, tuple(DEEDS)))
        for other in (TwinRun(VEE, BARE, KIND, DEEDS), TwinRun(ROW, KIND, BARE, DEEDS), TwinRun(ROW, BARE, BARE, DEEDS),
                      TwinRun(ROW, KIND, KIND, DEEDS), TwinRun(ROW, BARE, KIND, DEEDS[:2]), run.first, DEEDS, None):
            self.assertNotEqual(run, other)

    def test_later_changes_of_what_was_passed(self):
        deeds = [["goes", [2], 1, [[0, 1]]]]
        run = TwinRun(ROW, BARE, KIND, deeds)
        self.assertEqual(deeds, [["goes", [2], 1, [[0, 1]]]])
        deeds[0][1].append(0)
        deeds[0][3][0][0] = 2
        deeds.append(("goes", [1], 1, []))
        self.assertEqual(run.deeds, (("goes", (2,), 1, ((0, 1),)),))


class WrongRuns(unittest.TestCase):

    def test_parts_in_order(self):
        for thing in (None, 0, True, "row", (3, [], []), BARE):
            self.assertEqual(caught(lambda: TwinRun(thing, None, None, None)), ("BadHistory", 0, "land"))
            self.assertEqual(caught(lambda: TwinRun(thing, BARE, KIND)), ("BadHistory", 0, "land"))
        for thing in (None, 0, True, BARE.row, "stay", ROW):
            for deeds in ((), None, [("goes",)]):
                self.assertEqual(caught(lambda: TwinRun(ROW, thing, KIND, deeds)), ("BadHistory", 0, "custom"))
                self.assertEqual(caught(lambda: TwinRun(ROW, BARE, thing, deeds)), ("BadHistory", 0, "custom"))
                self.assertEqual(caught(lambda: TwinRun(ROW, thing, thing, deeds)), ("BadHistory", 0, "custom"))
        for thing in (None, 0, True, "goes", {}, set()):
            self.assertEqual(caught(lambda: TwinRun(ROW, BARE, KIND, thing)), ("BadHistory", 0, "deeds"))
        many = [("grant", [0], [1])] * (MOST_DEEDS + 1)
        self.assertEqual(caught(lambda: TwinRun(ROW, BARE, KIND, many)), ("BadHistory", MOST_DEEDS, "many"))

    def test_deeds(self):
        for deed, word in [(None, "deed"), (("goes", [3], 1, []), "cells"), (("goes", [1], True, []), "hand"),
                           (("goes", [1], 1, [(1, 1)]), "told"), (("goes", [2], 1, []), "still"),
                           (("grant", [0, 2], [1]), "one"), (("gives", [0], [1]), "same")]:
            self.assertEqual(caught(lambda: TwinRun(ROW, BARE, KIND, [DEEDS[0], deed])), ("BadHistory", 1, word))
            run = TwinRun(ROW, BARE, KIND, DEEDS[:1])
            self.assertEqual(caught(lambda: run.then(deed)), ("BadHistory", 1, word))
            self.assertEqual(caught(lambda: run.then(DEEDS[1], deed)), ("BadHistory", 2, word))

    def test_numbers_cells_and_measures(self):
        run = TwinRun(ROW, BARE, KIND, DEEDS)
        for thing in (-1, 4, *NO_NUMBERS):
            self.assertEqual(caught(lambda: run.until(thing)), ("NoDeed", thing))
        for thing in (-1, 3, *NO_NUMBERS):
            self.assertEqual(caught(lambda: run.twin(thing)), ("BadCell", thing))
            self.assertEqual(caught(lambda: list(run.twins(thing))), ("BadCell", thing))
        for one in (run, TwinRun(ROW, BARE, BARE)):
            for thing in NO_MEASURES:
                self.assertEqual(caught(lambda: one.differing(thing)), ("BadMeasure", thing))
                self.assertEqual(caught(lambda: one.differs_at(thing)), ("BadMeasure", thing))
