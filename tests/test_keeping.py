"""[10.8], [10.9]: grants that keep a cell open."""

import random
import unittest

from helpers import (CHAIN, FORK, NO_NUMBERS, NO_SEQUENCES, PAIR, RING, ROW, VEE, caught, is_played, some_counted,
                     some_deed, subsets, tuples_only)
from landways.counted import Counted, counteds
from landways.customs import Custom, custom_at, customs
from landways.deeds import deed_fault
from landways.histories import MOST_DEEDS, History
from landways.keeping import Keeping, grantable_cells, keeping_grants, least_keeping, spoiling_grants, with_grants
from landways.keepjudge import keeping_fault
from landways.lands import Land
from landways.states import State
from landways.verdicts import Never, Shut, verdict_behind
from landways.views import view_of

EXAMPLE_LAND = Land(2, [(0, 1)], [0])
BARE = Custom("stay", "die", "none", "none", "never")
SLEEPY = Custom("stay", "sleep", "none", "none", "never")


def some_pasts(seed, numbers, lands=(PAIR, ROW, VEE, RING), many=4):
    """Drawn histories in which cells lie apart."""
    source = random.Random(seed)
    for k, number in enumerate(numbers):
        land, custom = lands[k % len(lands)], custom_at(number)
        start = [("goes", [source.randrange(land.cells)], 1, [])]
        yield History(land, custom, start).then(*some_deeds_behind(source, History(land, custom, start), source.randrange(many)))


def some_deeds_behind(source, history, many):
    """So many deeds that can be done behind the history."""
    added = []
    while len(added) < many:
        deed = some_deed(source, history.then(*added).state)
        if deed_fault(history.then(*added).state, deed) is None:
            added.append(deed)
    return added


class Grants(unittest.TestCase):

    def test_grantable_cells(self):
        for history in some_pasts(471, range(192)):
            state = history.state
            for cell in range(history.land.cells):
                expected = tuple(b for b in range(history.land.cells)
                                 if not state.is_own(cell, b) and state.standing(cell, b) in ("none", "needed"))
                self.assertEqual(grantable_cells(state, cell), expected)
        rows = [["none", "awake", "needed", "none"], ["none"] * 4, ["none"] * 4, ["asleep", "none", "none", "none"]]
        state = State(RING, [0, 1, 2, 0], rows)
        self.assertEqual([grantable_cells(state, cell) for cell in range(4)], [(2,), (0, 2, 3), (0, 1, 3), (1, 2)])
        self.assertEqual(grantable_cells(state=History(ROW, BARE).state, cell=1), ())

    def test_with_grants(self):
        for history in some_pasts(472, range(0, 192, 2)):
            for cell in range(history.land.cells):
                for lot in subsets(grantable_cells(history.state, cell)):
                    told = with_grants(history, cell, list(reversed(lot)))
                    self.assertEqual(told, history.then(*[("grant", (cell,), (b,)) for b in lot]))
                    self.assertEqual(told.deeds[len(history):], tuple(("grant", (cell,), (b,)) for b in lot))
                    self.assertEqual([told.state.standing(cell, b) for b in lot], ["awake"] * len(lot))
        history = History(ROW, BARE, [("goes", [2], 1, [])])
        lot = [1, 0]
        self.assertEqual(len(with_grants(history=history, cell=2, lot=lot)), 3)
        self.assertEqual((lot, with_grants(history, 2, ())), ([1, 0], history))

    def test_what_is_wrong(self):
        history = History(ROW, BARE, [("goes", [2], 1, []), ("grant", [2], [1])])
        for thing in (-1, 3, *NO_NUMBERS):
            for ask in (lambda: grantable_cells(history.state, thing), lambda: with_grants(history, thing, None),
                        lambda: keeping_grants(history, thing), lambda: spoiling_grants(history, thing),
                        lambda: least_keeping(history, thing)):
                self.assertEqual(caught(ask), ("BadCell", thing))
        for thing in (*NO_SEQUENCES, [3], [-1], [True], [False], [0, 0], [1], [2], [0, 1], [None], ["0"], [(0,)]):
            self.assertEqual(caught(lambda: with_grants(history, 2, thing)), ("BadCells", "lot"))
        self.assertEqual(len(with_grants(history, 2, [0])), 3)

    def test_too_many_deeds(self):
        deeds = [("goes", [2], 1, [])] + [("grant", [1], [2])] * (MOST_DEEDS - 1)
        history = History(ROW, BARE, deeds)
        self.assertEqual(caught(lambda: with_grants(history, 2, [0])), ("BadHistory", MOST_DEEDS, "many"))
        self.assertEqual(caught(lambda: with_grants(history, 2, [2])), ("BadCells", "lot"))


class Keepings(unittest.TestCase):

    def keeps(self, history, cell, lot, counted):
        return isinstance(verdict_behind(with_grants(history, cell, lot), cell, counted), Never)

    def check(self, history, cell, counted):
        free = grantable_cells(history.state, cell)
        good, bad = [], []
        for lot in subsets(free):
            if not [one for one in good if set(one) < set(lot)]:
                (good if self.keeps(history, cell, lot, counted) else bad).append(lot)
        told = keeping_grants(history, cell, counted)
        self.assertIsInstance(told, Keeping)
        self.assertEqual(([lot for lot, _ in told.good], [lot for lot, _ in told.bad]), (good, bad))
        self.assertTrue(tuples_only((told.good, told.bad)))
        for lot, never in told.good:
            self.assertIsInstance(never, Never)
            self.assertEqual((never.table.past, never.table.cell, never.table.counted),
                             (with_grants(history, cell, lot), cell, counted))
        for lot, shut in told.bad:
            self.assertIsInstance(shut, Shut)
            past = with_grants(history, cell, lot)
            self.assertTrue(is_played(shut.history, history.land, history.custom, counted, past.deeds))
            self.assertFalse(shut.history.state.is_open(cell))
            self.assertEqual(shut.steps, verdict_behind(past, cell, counted).steps)
        self.assertIsNone(keeping_fault(history, cell, counted, told))
        spoilt = [(lot, other) for lot in good for other in free
                  if other not in lot and not self.keeps(history, cell, lot + (other,), counted)]
        rows = spoiling_grants(history, cell, counted)
        self.assertEqual([row[:2] for row in rows], spoilt)
        self.assertTrue(tuples_only(rows))
        for lot, other, shut in rows:
            self.assertIsInstance(shut, Shut)
            self.assertEqual(shut.history.until(len(history) + len(lot) + 1), with_grants(history, cell, lot + (other,)))
            self.assertFalse(shut.history.state.is_open(cell))
        return (len(good) > 0, () in good, len(free) > 0, len(rows) > 0)

    def test_drawn_histories(self):
        source = random.Random(473)
        found = set()
        for history in some_pasts(474, range(192)):
            found.add(self.check(history, source.randrange(history.land.cells), some_counted(source)))
        for counted in counteds():
            for history in some_pasts(475, range(7, 192, 23)):
                for cell in range(history.land.cells):
                    found.add(self.check(history, cell, counted))
        self.assertLessEqual({(True, True, True, False), (True, False, True, False), (False, False, True, False),
                              (True, True, False, False), (False, False, False, False)}, found)

    def test_the_example(self):
        history = History(EXAMPLE_LAND, BARE, [("goes", [1], 1, [])])
        self.assertEqual(keeping_grants(history, 1).good, ())
        history = History(EXAMPLE_LAND, SLEEPY, [("goes", [1], 1, [])])
        self.assertEqual([lot for lot, _ in keeping_grants(history, 1).good], [(0,)])
        self.assertEqual([lot for lot, _ in keeping_grants(history, 1).bad], [()])

    def test_lots_that_a_further_grant_spoils(self):
        counted = Counted(grants=False)
        for ends in ("never", "free"):
            # What is needed goes on untold, and what was granted dies; without grants it cannot come again.
            one = Custom("needed stay", "die", "need", "need", ends)
            for land, cells, cell, spoilers in ((ROW, [2], 2, (0, 1)), (ROW, [1, 2], 2, (0,)), (RING, [1], 1, (0, 2)),
                                                (FORK, [0], 0, (1, 2, 3)), (CHAIN, [2, 3, 4], 4, (0, 1))):
                history = History(land, one, [("goes", cells, 1, [])])
                self.assertEqual(self.check(history, cell, counted), (True, True, True, True))
                self.assertEqual([row[:2] for row in spoiling_grants(history, cell, counted)], [((), b) for b in spoilers])
                self.assertEqual([lot for lot, _ in keeping_grants(history, cell, counted).good], [()])

    def test_customs_with_need(self):
        for number in range(1, 192, 5):
            if custom_at(number).uses("need"):
                for land, cell in ((FORK, 0), (RING, 1), (VEE, 0)):
                    for counted in (Counted(), Counted(False, False, False)):
                        self.check(History(land, custom_at(number), [("goes", [cell], 1, [])]), cell, counted)

    def test_no_grantable_cell(self):
        for one in (BARE, Custom("stay", "die", "all", "all", "never")):
            history = History(ROW, one)
            told = keeping_grants(history, 2)
            self.assertEqual([lot for lot, _ in told.good + told.bad], [()])
            self.assertEqual((len(told.good), spoiling_grants(history, 2)), (0 if one == BARE else 1, ()))

    def test_a_road_cell_needs_no_grant(self):
        history = History(ROW, BARE, [("goes", [0], 1, [])])
        self.assertEqual([lot for lot, _ in keeping_grants(history, 0).good], [()])
        self.assertEqual((keeping_grants(history, 0).bad, least_keeping(history, 0)), ((), ((),)))

    def test_shut_off_behind_the_grants_already(self):
        history = History(ROW, BARE, [("goes", [2], 1, [])])
        told = keeping_grants(history, 2, Counted(False, False, False))
        self.assertEqual([(lot, shut.steps) for lot, shut in told.bad[:2]], [((), 0), ((0,), 0)])
        self.assertEqual(told.bad[0][1].history, history)

    def test_counted_left_out_none_by_place_and_by_name(self):
        history = History(EXAMPLE_LAND, SLEEPY, [("goes", [1], 1, [])])
        for told in (keeping_grants(history, 1), keeping_grants(history, 1, None),
                     keeping_grants(history=history, cell=1, counted=None)):
            self.assertEqual(told.good[0][1].table.counted, Counted())
        for told in (least_keeping(history, 1), least_keeping(history, 1, None), least_keeping(history=history, cell=1, counted=None)):
            self.assertEqual(told, ((0,),))
        self.assertEqual(least_keeping(history, 1, Counted(giving_up=True)), ())
        self.assertEqual(spoiling_grants(history=history, cell=1, counted=None), ())

    def test_results_keep_what_they_are_passed(self):
        self.assertEqual(vars(Keeping(1, 2)), {"good": 1, "bad": 2})


class WithoutNeed(unittest.TestCase):

    def test_the_rule_against_the_tables(self):
        source = random.Random(476)
        plain = [one.number for one in customs() if not one.uses("need")]
        found = set()
        for history in [*some_pasts(477, plain), *some_pasts(478, plain, lands=(VEE, FORK, ROW))]:
            for counted in (some_counted(source), Counted(untold=False)):
                for cell in range(history.land.cells):
                    told = least_keeping(history, cell, counted)
                    self.assertEqual(told, tuple(lot for lot, _ in keeping_grants(history, cell, counted).good))
                    self.assertEqual(spoiling_grants(history, cell, counted), ())
                    self.assertTrue(tuples_only(told))
                    found.add((len(told), len(told[0]) if told else None))
        self.assertLessEqual({(0, None), (1, 0), (1, 1), (1, 2)}, found)

    def test_larger_lands(self):
        source = random.Random(479)
        plain = [one.number for one in customs() if not one.uses("need")]
        for history in some_pasts(480, plain[::9], lands=(CHAIN, RING)):
            for cell in range(history.land.cells):
                counted = some_counted(source)
                self.assertEqual(least_keeping(history, cell, counted),
                                 tuple(lot for lot, _ in keeping_grants(history, cell, counted).good))

    def test_several_least_lots(self):
        # Either road cell next to it does.
        history = History(VEE, SLEEPY, [("goes", [0], 1, [])])
        self.assertEqual(least_keeping(history, 0), ((1,), (2,)))
        history = History(ROW, SLEEPY, [("goes", [2], 1, [])])
        self.assertEqual(least_keeping(history, 2), ((0, 1),))

    def test_what_is_wrong(self):
        for sold, kept, word in [("need", "need", "sold"), ("all", "need", "kept"), ("need", "beside", "sold")]:
            history = History(ROW, Custom("stay", "die", sold, kept, "never"))
            self.assertEqual(caught(lambda: least_keeping(history, 9)), ("NeedsLand", word))

    def test_views_are_left_alone(self):
        history = History(ROW, SLEEPY, [("goes", [2], 1, [])])
        ahead = view_of(history.state, 2)
        least_keeping(history, 2)
        keeping_grants(history, 2)
        self.assertEqual((view_of(history.state, 2), len(history)), (ahead, 1))
