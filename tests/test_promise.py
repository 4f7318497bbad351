"""[0.2]: the main promise, on drawn lands, customs and cells, and what the parts say of one another over the program."""

import random
import unittest

from helpers import is_played, some_counted, some_deed
from landways.bench import Bench
from landways.changes import Change, Pool, every_change
from landways.comparing import Alike, compare_customs
from landways.counted import Counted, counteds
from landways.customs import CLAUSES, custom_at, customs, differences
from landways.deeds import deed_fault, is_counted
from landways.deedtext import history_text, parse_history
from landways.everycustom import are_alike_everywhere
from landways.everyland import fewest_deeds, on_all_lands, shutting, sort_of
from landways.findings import prospect
from landways.histories import History
from landways.keeping import keeping_grants
from landways.lands import Land
from landways.mends import good_choices, nearest_customs
from landways.safety import can_be_shut
from landways.smudges import lawful_fillings
from landways.tablejudge import verdict_fault
from landways.tables import table_behind, view_table
from landways.twinruns import TwinRun
from landways.verdicts import Never, Shut, is_never, verdict_behind, verdict_of
from landways.views import view_of
from landways.walks import first_leaving, retold
from landways.wishes import EveryLandWish, Kept, LandWish, judge_wish
from registers import some_smudges


def drawn_land(source, most=5):
    """A land that hangs together, of two to so many cells."""
    cells = source.randint(2, most)
    couples = {(source.randrange(b), b) for b in range(1, cells)}
    couples |= {(a, b) for b in range(cells) for a in range(b) if source.random() < 0.2}
    return Land(cells, sorted(couples), source.sample(range(cells), source.randint(1, cells - 1)))


def drawn_run(source, history, counted, many):
    """The history with so many drawn deeds more, all of them counted."""
    while many:
        deed = some_deed(source, history.state)
        if deed_fault(history.state, deed) is None and is_counted(counted, history.state, deed):
            history = history.then(deed)
            many -= 1
    return history


class MainPromise(unittest.TestCase):

    def check(self, source, land, custom, cell, counted):
        told = verdict_of(land, custom, cell, counted)
        self.assertIsNone(verdict_fault(History(land, custom), cell, counted, told))
        fewest = on_all_lands(custom, counted).fewest(land, cell)
        self.assertEqual(fewest, fewest_deeds(land, custom, cell, counted))
        self.assertIs(is_never(land, custom, cell, counted), fewest is None)
        run = drawn_run(source, History(land, custom), counted, 6)
        if fewest is None:
            self.assertIsInstance(told, Never)
            self.assertIsNone(first_leaving(told.table))
            self.assertTrue(all(view.is_open() for view in told.table.views))
            self.assertIsNone(run.first_shut(cell))
            self.assertTrue(all(view_of(state, cell) in told.table for state in run.states()))
            return "never"
        self.assertIsInstance(told, Shut)
        for history in (told.history, shutting(land, custom, cell, counted)):
            self.assertTrue(is_played(history, land, custom, counted))
            self.assertFalse(history.state.is_open(cell))
            self.assertEqual(parse_history(history_text(history)), history)
        self.assertEqual(len(shutting(land, custom, cell, counted)), fewest)
        self.assertLessEqual(told.steps, fewest)
        first = run.first_shut(cell)
        self.assertTrue(first is None or first >= fewest)
        return sort_of(land, cell)

    def test_drawn_lands_customs_and_cells(self):
        source = random.Random(501)
        found = set()
        for number in range(192):
            for _ in range(3):
                land = drawn_land(source, 5 if number % 4 == 0 else 4)
                found.add(self.check(source, land, custom_at(number), source.randrange(land.cells), some_counted(source)))
        self.assertEqual(found, {"never", "far", "loose", "bound"})

    def test_behind_drawn_histories(self):
        source = random.Random(502)
        for number in range(192):
            land, custom, counted = drawn_land(source, 4), custom_at(number), some_counted(source)
            past = drawn_run(source, History(land, custom), Counted(True, True, True), source.randrange(4))
            cell = source.randrange(land.cells)
            told = verdict_behind(past, cell, counted)
            self.assertIsNone(verdict_fault(past, cell, counted, told))
            run = drawn_run(source, past, counted, 5)
            shut = [many for many in range(len(past), len(run) + 1) if not run.state_at(many).is_open(cell)]
            if isinstance(told, Never):
                self.assertEqual(shut, [])
            elif shut:
                self.assertLessEqual(told.steps, shut[0] - len(past))
            table = table_behind(past, cell, counted)
            self.assertIs(isinstance(told, Never), all(view.is_open() for view in table.views))
            if isinstance(told, Shut):
                self.assertEqual(told.steps, min(row[1] for row in table.rows if not row[0].is_open()))
            if not custom.uses("need"):
                self.assertIs(can_be_shut(past, cell, counted), isinstance(told, Shut))

    def test_histories_told_again(self):
        source = random.Random(503)
        for number in range(0, 192, 3):
            land, counted = drawn_land(source, 4), some_counted(source)
            run = drawn_run(source, History(land, custom_at(number)), counted, 6)
            cell = source.randrange(land.cells)
            again = retold(run, cell, counted)
            self.assertEqual(view_of(again.state, cell), view_of(run.state, cell))
            self.assertLessEqual(len(again), 2 * view_table(land, run.custom, cell, counted).distance(view_of(run.state, cell)))


class OverTheParts(unittest.TestCase):

    def test_two_customs(self):
        source = random.Random(511)
        for number in range(0, 192, 2):
            land, one, counted = drawn_land(source, 3), custom_at(number), some_counted(source)
            other = one.changed(*source.choice([(change.clause, change.word) for change in every_change(one)]))
            told = compare_customs(land, one, other, counted, measure="open")
            everywhere = are_alike_everywhere(one, other, counted, measure="open")
            self.assertTrue(isinstance(told, Alike) or not everywhere)
            if isinstance(told, Alike):
                for cell in range(land.cells):
                    self.assertIs(is_never(land, one, cell, counted), is_never(land, other, cell, counted))
            if everywhere:
                self.assertEqual([getattr(on_all_lands(one, counted), sort) is None for sort in ("far", "loose", "bound")],
                                 [getattr(on_all_lands(other, counted), sort) is None for sort in ("far", "loose", "bound")])
                wide = drawn_land(source, 5)
                run = drawn_run(source, History(wide, one), counted, 5)
                twin = TwinRun(wide, one, other, run.deeds)
                if twin.is_counted(counted):
                    self.assertIsNone(twin.differs_at("open"))

    def test_registers_with_gaps(self):
        plain = [one.number for one in customs() if not one.uses("need")]
        for k, (smudged, _) in enumerate(some_smudges(512, plain)):
            counted = list(counteds())[k % 8]
            for cell in range(smudged.land.cells):
                shut = {isinstance(verdict_behind(history, cell, counted), Shut) for _, history in lawful_fillings(smudged)}
                expected = {(True,): "exposed", (False,): "safe"}.get(tuple(shut), "unsure")
                self.assertEqual(prospect(smudged, cell, counted), expected)

    def test_mended_customs(self):
        source = random.Random(513)
        for number in range(0, 192, 12):
            land, custom, counted = drawn_land(source, 3), custom_at(number), some_counted(source)
            cell = source.randrange(land.cells)
            near = nearest_customs(custom, LandWish(land, [cell], counted))
            never = [one for one in customs() if is_never(land, one, cell, counted)]
            self.assertEqual(near is None, not never)
            if near is not None:
                self.assertEqual(near[0], min(len(differences(custom, one)) for one in never))
                self.assertTrue(all(one in never for one in near[1]))

    def test_wishes_for_all_lands_are_kept_on_each_land(self):
        source = random.Random(514)
        for custom in customs():
            counted = some_counted(source)
            for sort in ("far", "loose", "bound"):
                kept = isinstance(judge_wish(EveryLandWish([sort], counted), custom), Kept)
                land = drawn_land(source, 4)
                cells = [cell for cell in range(land.cells) if sort_of(land, cell) == sort]
                if cells:
                    self.assertIs(isinstance(judge_wish(LandWish(land, cells, counted), custom), Kept), kept)

    def test_choices_of_all_changes_are_all_customs(self):
        custom = custom_at(39)
        pool = Pool(list(every_change(custom)))
        numbers = sorted(pool.custom_by(custom, choice).number for choice in pool.lawful_choices())
        self.assertEqual(numbers, list(range(192)))
        wish = EveryLandWish(["bound"])
        good = {pool.custom_by(custom, choice).number for choice in good_choices(custom, pool, wish)}
        self.assertEqual(good, {one.number for one in customs() if on_all_lands(one).bound is None})
        self.assertEqual(len(CLAUSES), 5)

    def test_grants_tried_on_a_bench(self):
        source = random.Random(515)
        for number in range(0, 192, 7):
            land, custom = drawn_land(source, 4), custom_at(number)
            bench = Bench(land, custom, drawn_run(source, History(land, custom), Counted(), 2).deeds)
            cell = source.randrange(land.cells)
            for lot, never in keeping_grants(bench.history, cell).good:
                grants = [("grant", [cell], [b]) for b in lot]
                told = bench.tried(grants, lambda one: verdict_behind(one.history, cell))
                self.assertEqual(told.table, never.table)
                self.assertEqual(len(bench), 0)

    def test_a_change_on_a_bench_is_the_history_under_another_custom(self):
        source = random.Random(516)
        for number in range(0, 192, 5):
            land = drawn_land(source)
            history = drawn_run(source, History(land, custom_at(number)), Counted(True, True, True), 5)
            bench = Bench(land, history.custom, history.deeds)
            for change in every_change(history.custom):
                bench.change(change)
                self.assertEqual(bench.history, History(land, change.made(history.custom), history.deeds))
                bench.change(Change(change.clause, history.custom.word(change.clause)))
                self.assertEqual(bench.history, history)
