"""[8.4]: tables of twin views."""

import random
import unittest

from helpers import FORK, HOUSE, NO_NUMBERS, PAIR, RING, ROW, VEE, caught, some_counted, tuples_only
from landways.counted import Counted, counteds
from landways.customs import Custom, custom_at
from landways.lands import Land
from landways.tables import view_table
from landways.twinruns import TwinRun
from landways.twintables import TwinTable, twin_leaving, twin_table
from landways.twinviews import TwinView, twin_seen, twin_start, twin_steps
from landways.views import start_view
from twinwalk import twin_states

BARE = Custom("stay", "die", "none", "none", "never")
KIND = Custom("stay", "die", "all", "all", "never")
EVERYTHING = Counted(True, True, True)
FULL = Land(3, [(0, 1), (1, 2), (0, 2)], [2])


def drawn_tables(seed, many, lands=(PAIR, ROW, VEE, FULL)):
    """Tables of drawn lands, customs, cells and sorts of counted deeds."""
    source = random.Random(seed)
    for _ in range(many):
        land = source.choice(lands)
        one, other = custom_at(source.randrange(192)), custom_at(source.randrange(192))
        yield twin_table(land, one, other, source.randrange(land.cells), some_counted(source))


def walked(table):
    """The distance of each twin view, by its numbers, level by level over the steps of [8.2]."""
    start = twin_start(table.land, table.cell)
    distances, level, many = {start.numbers: 0}, [start], 0
    while level:
        many += 1
        further = {}
        for ahead in level:
            for step in twin_steps(table.one, table.other, ahead, table.counted):
                behind = twin_seen(table.one, table.other, ahead, step)
                if behind.numbers not in distances:
                    further[behind.numbers] = behind
        distances.update({key: many for key in further})
        level = list(further.values())
    return distances


class Rows(unittest.TestCase):

    def test_as_walked_again(self):
        for table in drawn_tables(331, 90):
            self.assertEqual({row[0].numbers: row[1] for row in table.rows}, walked(table))
            self.assertEqual(table.rows[0], (twin_start(table.land, table.cell), 0, None, None))
            keys = [(row[1], row[0].numbers) for row in table.rows]
            self.assertEqual(keys, sorted(set(keys)))
            for twin, distance, before, step in table.rows[1:]:
                ahead = table.rows[before]
                self.assertEqual(ahead[1], distance - 1)
                self.assertIn(step, list(twin_steps(table.one, table.other, ahead[0], table.counted)))
                self.assertEqual(twin_seen(table.one, table.other, ahead[0], step), twin)
            self.assertLessEqual(len(table), 13 ** (table.land.cells - 1))
            self.assertTrue(tuples_only(table.rows))

    def states_agree(self, land, one, other, counted):
        states = twin_states(land, one, other, counted)
        for cell in range(land.cells):
            came = {(tuple(b for b in range(land.cells) if hands[b] == hands[cell]), first[cell], second[cell])
                    for hands, first, second in states}
            table = twin_table(land, one, other, cell, counted)
            self.assertEqual({(row[0].own, row[0].one.standings, row[0].other.standings) for row in table.rows}, came)

    def test_against_all_counted_deeds_on_two_cells(self):
        source = random.Random(332)
        for number in range(192):
            for counted in counteds():
                self.states_agree(PAIR, custom_at(number), custom_at(source.randrange(192)), counted)

    def test_against_all_counted_deeds_on_three_cells(self):
        source = random.Random(333)
        for k, number in enumerate(range(3, 192, 13)):
            counted = list(counteds())[k % 4]
            self.states_agree((ROW, VEE, FULL)[k % 3], custom_at(number), custom_at(source.randrange(192)), counted)
        self.states_agree(ROW, Custom("die", "sleep", "all", "need", "free"), Custom("stay", "sleep", "all", "need", "free"),
                          EVERYTHING)

    def test_views_are_those_of_the_tables_of_each_custom(self):
        for table in drawn_tables(334, 150):
            for custom, told in ((table.one, table.firsts()), (table.other, table.seconds())):
                single = view_table(table.land, custom, table.cell, table.counted)
                self.assertEqual([view.number for view in told], sorted(view.number for view in single.views))
                self.assertTrue(all(view in single for view in told))
                self.assertIsInstance(told, tuple)

    def test_firsts_and_seconds_of_any_rows(self):
        one, other = start_view(ROW, 2), twin_table(ROW, KIND, BARE, 2).rows[1][0].other
        rows = tuple((TwinView(*pair), 0, None, None) for pair in [(one, one), (one, one)])
        table = TwinTable(ROW, KIND, BARE, 2, EVERYTHING, rows + ((TwinView(other, other), 1, 0, None),))
        self.assertEqual((table.firsts(), table.seconds()), ((one, other), (one, other)))
        self.assertEqual((TwinTable(ROW, KIND, BARE, 2, EVERYTHING, ()).firsts()), ())

    def test_the_same_custom_twice(self):
        for number in range(0, 192, 11):
            table = twin_table(ROW, custom_at(number), custom_at(number), 2, EVERYTHING)
            single = view_table(ROW, custom_at(number), 2, EVERYTHING)
            self.assertEqual([row[0] for row in table.rows], [TwinView(view, view) for view in single.views])
            self.assertEqual([row[1] for row in table.rows], [row[1] for row in single.rows])


class Methods(unittest.TestCase):

    def test_len_iteration_and_in(self):
        for table in drawn_tables(335, 30):
            self.assertEqual(len(table), len(table.rows))
            self.assertEqual(tuple(table), table.rows)
            for twin, distance, _, _ in table.rows:
                self.assertIn(TwinView(twin.one, twin.other), table)
                self.assertEqual(table.distance(twin), distance)
                self.assertEqual(twin.turned() in table, twin.turned() in [row[0] for row in table.rows])

    def test_runs(self):
        for table in drawn_tables(336, 60):
            for twin, distance, _, _ in table.rows:
                run = table.run_of(twin)
                self.assertEqual((run.land, run.one, run.other), (table.land, table.one, table.other))
                self.assertIs(run.is_counted(table.counted), True)
                self.assertEqual(run.twin(table.cell), twin)
                self.assertLessEqual(len(run), 2 * distance)
                twins = list(run.twins(table.cell))
                self.assertEqual(len([k for k in range(len(run)) if twins[k] != twins[k + 1]]), distance)
            self.assertEqual(table.run_of(table.rows[0][0]), TwinRun(table.land, table.one, table.other))

    def test_what_is_not_in_the_table(self):
        table = twin_table(ROW, KIND, BARE, 2, Counted(False, False, False))
        twins = [twin_start(ROW, 1), twin_start(VEE, 2), twin_start(PAIR, 1), table.rows[1][0].turned()]
        for thing in twins + [None, True, 0, "2: oo", (0, 0), table.rows[0], start_view(ROW, 2)]:
            self.assertNotIn(thing, table)
            self.assertEqual(caught(lambda: table.distance(thing)), ("NoTwin", thing))
            self.assertEqual(caught(lambda: table.run_of(thing)), ("NoTwin", thing))

    def test_results_keep_what_they_are_passed(self):
        table = TwinTable(1, 2, 3, 4, 5, ())
        self.assertEqual(vars(table), {"land": 1, "one": 2, "other": 3, "cell": 4, "counted": 5, "rows": ()})

    def test_counted_left_out_none_by_place_and_by_name(self):
        for table in (twin_table(ROW, KIND, BARE, 2), twin_table(ROW, KIND, BARE, 2, None),
                      twin_table(land=ROW, one=KIND, other=BARE, cell=2, counted=None), twin_table(ROW, KIND, BARE, 2, Counted())):
            self.assertEqual(table.counted, Counted())
            self.assertEqual(len(table), len(twin_table(ROW, KIND, BARE, 2, Counted(True, True, False))))
        self.assertEqual(vars(twin_table(ROW, KIND, BARE, 2, EVERYTHING))["counted"], EVERYTHING)

    def test_what_is_wrong(self):
        for land in (RING, FORK, HOUSE):
            for cell in (0, -1, None, True):
                self.assertEqual(caught(lambda: twin_table(land, KIND, BARE, cell)), ("TooWide", "cells"))
        for thing in (-1, 3, *NO_NUMBERS):
            self.assertEqual(caught(lambda: twin_table(ROW, KIND, BARE, thing)), ("BadCell", thing))


class Leaving(unittest.TestCase):

    def leaving_told_again(self, table):
        known = [row[0].numbers for row in table.rows]
        for twin, _, _, _ in table.rows:
            for step in twin_steps(table.one, table.other, twin, table.counted):
                if twin_seen(table.one, table.other, twin, step).numbers not in known:
                    return (twin, step)
        return None

    def test_right_tables(self):
        for table in drawn_tables(337, 40):
            self.assertIsNone(twin_leaving(table))

    def test_tables_that_lack_rows(self):
        source = random.Random(338)
        for table in drawn_tables(339, 40):
            for _ in range(4):
                rows = list(table.rows)
                for _ in range(source.randint(1, 3)):
                    rows.pop(source.randrange(len(rows))) if len(rows) > 1 else None
                source.shuffle(rows)
                spoilt = TwinTable(table.land, table.one, table.other, table.cell, table.counted, tuple(rows))
                self.assertEqual(twin_leaving(spoilt), self.leaving_told_again(spoilt))

    def test_no_rows(self):
        self.assertIsNone(twin_leaving(TwinTable(ROW, KIND, BARE, 2, EVERYTHING, ())))
