"""[5.1] to [5.6]: tables of views."""

import random
import unittest

from helpers import (CHAIN, FORK, NO_NUMBERS, PAIR, RING, ROW, caught, look, some_deeds, some_histories,
                     tuples_only)
from landways.counted import Counted, counteds
from landways.customs import Custom, custom_at, customs
from landways.deeds import is_counted
from landways.histories import History
from landways.landforms import all_lands
from landways.listing import plain_steps
from landways.seeing import see_step
from landways.states import start_state
from landways.steps import Come, Step
from landways.tables import WAYS, Table, table_behind, view_table, ways_of
from landways.verdicts import Never
from landways.views import all_views, start_view, view_of
from statewalk import came_by, state_graph

EXAMPLE = Custom("needed stay", "sleep", "none", "need", "never")


def walked(custom, view, counted):
    """The distance of each number of a view that plain steps lead to, level by level."""
    distances, level = {view.number: 0}, [view]
    while level:
        further = {}
        for ahead in level:
            for step in plain_steps(custom, ahead, counted):
                behind = see_step(custom, ahead, step)
                if behind.number not in distances:
                    further[behind.number] = behind
        many = max(distances.values()) + 1
        distances.update({number: many for number in further})
        level = [further[number] for number in sorted(further)]
    return distances


def seen_by(graph, counted, cell):
    """The own cells and standings of a cell that counted deeds bring about."""
    return {(tuple(b for b in range(len(hands)) if hands[b] == hands[cell]), standings[cell])
            for hands, standings in came_by(graph, counted)}


class Rows(unittest.TestCase):

    def check(self, past, cell, counted):
        table = table_behind(past, cell, counted)
        custom, start = past.custom, view_of(past.state, cell)
        self.assertIsInstance(table, Table)
        self.assertEqual((table.past, table.cell, table.counted), (past, cell, counted))
        self.assertEqual((table.land, table.custom), (past.land, custom))
        self.assertIsInstance(table.rows, tuple)
        self.assertEqual(table.rows[0], (start, 0, None, None))
        self.assertEqual({row[0].number: row[1] for row in table.rows}, walked(custom, start, counted))
        keys = [(row[1], row[0].number) for row in table.rows]
        self.assertEqual(keys, sorted(set(keys)))
        for view, distance, before, step in table.rows[1:]:
            ahead = table.rows[before]
            self.assertEqual(ahead[1], distance - 1)
            self.assertIn(step, list(plain_steps(custom, ahead[0], counted)))
            self.assertEqual(see_step(custom, ahead[0], step), view)
        return table

    def test_lands_of_two_cells_under_all_customs(self):
        for custom in customs():
            for counted in counteds():
                self.check(History(PAIR, custom), 0, counted)

    def test_lands_of_three_cells(self):
        lands = list(all_lands(3))
        for number in range(192):
            land = lands[number % len(lands)]
            for k, counted in enumerate(counteds()):
                if number % 4 == k % 4:
                    self.check(History(land, custom_at(number)), (number + k) % 3, counted)

    def test_lands_of_four_cells(self):
        for k, counted in enumerate(counteds()):
            for number in range(k * 3, 192, 47):
                self.check(History((RING, FORK)[number % 2], custom_at(number)), k % 4, counted)

    def test_behind_drawn_histories(self):
        source = random.Random(71)
        for number in range(0, 192, 2):
            land = (PAIR, ROW, ROW, RING)[source.randrange(4)]
            past = History(land, custom_at(number), some_deeds(source, land, custom_at(number), 5))
            table = self.check(past, source.randrange(land.cells), Counted(*source.choices([False, True], k=3)))
            self.assertLessEqual(len(table), 5 ** (land.cells - 1))

    def test_five_cells(self):
        table = view_table(CHAIN, Custom("die", "sleep", "need", "need", "never"), 4, Counted(giving_up=True))
        self.assertEqual({row[0].number: row[1] for row in table},
                         walked(table.custom, start_view(CHAIN, 4), table.counted))

    def test_against_all_states_of_two_cells(self):
        for custom in customs():
            graph = state_graph(custom, PAIR)
            for counted in counteds():
                for cell in (0, 1):
                    seen = {(view.own, view.standings) for view in view_table(PAIR, custom, cell, counted).views}
                    self.assertEqual(seen, seen_by(graph, counted, cell))

    def test_against_all_states_of_three_cells(self):
        lands = list(all_lands(3))
        for number in [EXAMPLE.number, *range(5, 192, 13)]:
            custom, land = custom_at(number), lands[number % len(lands)]
            graph = state_graph(custom, land)
            for counted in counteds():
                for cell in range(3):
                    seen = {(view.own, view.standings) for view in view_table(land, custom, cell, counted).views}
                    self.assertEqual(seen, seen_by(graph, counted, cell))


class Asking(unittest.TestCase):

    def setUp(self):
        self.table = view_table(ROW, EXAMPLE, 2)

    def test_len_iteration_in(self):
        table = self.table
        self.assertEqual(len(table), len(table.rows))
        self.assertEqual(list(table), list(table.rows))
        self.assertEqual(table.views, tuple(row[0] for row in table.rows))
        self.assertTrue(tuples_only(table.views))
        bare = view_table(ROW, Custom("stay", "die", "all", "all", "never"), 2, Counted(False, False, False))
        for view in all_views(ROW, 2):
            self.assertIs(view in bare, view.number in [row[0].number for row in bare])
        self.assertIn(look(ROW, "2: oo"), bare)
        self.assertNotIn(look(ROW, "2: nn"), bare)
        self.assertNotIn(look(ROW, "1: oo"), bare)
        self.assertNotIn(look(list(all_lands(3))[0], "2: oo"), bare)
        for thing in (None, 0, "2: oo", bare.rows[0], (bare.views[0],), start_state(ROW), True):
            self.assertIs(thing in bare, False)

    def test_equal(self):
        table = self.table
        past, counted = History(ROW, EXAMPLE), Counted()
        self.assertTrue(table == Table(past, 2, counted, table.rows))
        self.assertTrue(table == Table(past, 2, counted, tuple(reversed(table.rows))))
        bare = tuple((view, distance, None, None) for view, distance, _, _ in table.rows)
        self.assertTrue(table == Table(past, 2, counted, bare))
        self.assertFalse(table == Table(past, 2, counted, table.rows[:-1]))
        self.assertFalse(Table(past, 2, counted, table.rows[:-1]) == table)
        further = (table.rows[-1][0], table.rows[-1][1] + 1, *table.rows[-1][2:])
        self.assertFalse(table == Table(past, 2, counted, table.rows[:-1] + (further,)))
        self.assertFalse(table == Table(past.then(("goes", [2], 1, [])), 2, counted, table.rows))
        self.assertFalse(table == Table(past, 1, counted, table.rows))
        self.assertFalse(table == Table(past, 2, Counted(False), table.rows))
        for thing in (None, table.rows, past, Never(table)):
            self.assertFalse(table == thing)

    def test_is_within(self):
        for number in range(0, 192, 17):
            tables = [view_table(ROW, custom_at(number), 1, counted) for counted in counteds()]
            for one in tables:
                for other in tables:
                    within = set(v.number for v in one.views) <= set(v.number for v in other.views)
                    self.assertIs(one.is_within(other), within)
                    if one.counted.is_within(other.counted):
                        self.assertTrue(within)
        self.assertIs(view_table(ROW, EXAMPLE, 1).is_within(self.table), False)
        self.assertIs(Table(self.table.past, 2, Counted(), ()).is_within(self.table), True)

    def test_distances_and_ways(self):
        for history in some_histories(72, range(0, 192, 11), many=4, lands=(PAIR, ROW, RING)):
            table = table_behind(history, history.land.cells - 1)
            start = table.views[0]
            self.assertEqual((table.distance(start), table.way_to(start)), (0, ()))
            self.assertEqual(table.history_of(start), history)
            for view, distance, _, _ in table.rows[::1 if history.land.cells < 4 else 5]:
                self.assertEqual(table.distance(view), distance)
                self.check_way(table, view, distance)

    def check_way(self, table, view, distance):
        way = table.way_to(view)
        self.assertIsInstance(way, tuple)
        self.assertEqual(len(way), distance)
        now = table.views[0]
        for step in way:
            self.assertIsInstance(step, Step)
            now = see_step(table.custom, now, step)
        self.assertEqual(now, view)
        past, history = table.past, table.history_of(view)
        self.assertEqual((history.land, history.custom), (past.land, past.custom))
        self.assertEqual(history.deeds[:len(past)], past.deeds)
        self.assertEqual(view_of(history.state, table.cell), view)
        self.assertLessEqual(len(history) - len(past), 2 * distance)
        views = [view_of(history.state_at(k), table.cell) for k in range(len(past), len(history) + 1)]
        self.assertEqual(len([k for k in range(1, len(views)) if views[k] != views[k - 1]]), distance)
        for k in range(len(past), len(history)):
            self.assertIs(is_counted(table.counted, history.state_at(k), history.deeds[k]), True)

    def test_views_that_are_not_in_the_table(self):
        table = view_table(ROW, Custom("stay", "die", "all", "all", "never"), 2)
        for thing in (look(ROW, "2: nn"), look(ROW, "1: oo"), None, 0, "2: oo", True, table.rows[0]):
            for ask in (table.distance, table.way_to, table.history_of):
                self.assertEqual(caught(lambda: ask(thing)), ("NoView", thing))

    def test_past_deeds_need_not_be_counted(self):
        past = History(ROW, EXAMPLE, [("goes", [2], 1, []), ("grant", [2], [0, 1]), ("gives", [2], [0])])
        table = table_behind(past, 2, Counted(False, False, False))
        self.assertEqual(table.views[0], look(ROW, "2: .a"))
        self.assertIn(look(ROW, "2: os"), table)
        self.assertNotIn(look(ROW, "2: oo"), table)

    def test_counted_left_out_none_by_place_and_by_name(self):
        for table in (view_table(ROW, EXAMPLE, 2, None), view_table(ROW, EXAMPLE, 2, Counted()),
                      view_table(land=ROW, custom=EXAMPLE, cell=2, counted=None),
                      table_behind(History(ROW, EXAMPLE), 2), table_behind(History(ROW, EXAMPLE), 2, None),
                      table_behind(History(ROW, EXAMPLE), cell=2, counted=Counted())):
            self.assertEqual(table, self.table)
            self.assertEqual(table.counted, Counted())
        self.assertNotEqual(view_table(ROW, EXAMPLE, 2, Counted(False)), self.table)

    def test_what_is_no_cell(self):
        for thing in (-1, 3, *NO_NUMBERS):
            self.assertEqual(caught(lambda: view_table(ROW, EXAMPLE, thing)), ("BadCell", thing))
            self.assertEqual(caught(lambda: table_behind(History(ROW, EXAMPLE), thing)), ("BadCell", thing))

    def test_results_keep_what_they_are_passed(self):
        table = Table(History(ROW, EXAMPLE), 9, None, None)
        self.assertEqual((table.cell, table.counted, table.rows, table.custom), (9, None, None, EXAMPLE))


class Ways(unittest.TestCase):

    def test_words(self):
        self.assertEqual(WAYS, ("own", "asleep", "none", "awake", "needed"))
        bare = Counted(False, False, False)
        self.assertEqual(ways_of(view_table(ROW, Custom("stay", "die", "all", "all", "never"), 2, bare), 0),
                         ("own", "awake"))
        self.assertEqual(ways_of(view_table(ROW, Custom("stay", "sleep", "none", "all", "never"), 2, bare), 1),
                         ("own", "asleep", "none", "awake"))
        self.assertEqual(ways_of(view_table(PAIR, Custom("stay", "die", "need", "need", "never"), 0, bare), 1),
                         ("own", "needed"))

    def test_words_of_all_rows(self):
        for number in range(0, 192, 13):
            table = view_table(ROW, custom_at(number), 1)
            for other in (0, 2):
                found = {view.way_of(other) for view in table.views}
                self.assertEqual(ways_of(table, other), tuple(way for way in WAYS if way in found))

    def test_what_is_no_other_cell(self):
        table = view_table(ROW, EXAMPLE, 2)
        for thing in (-1, 2, 3, *NO_NUMBERS):
            self.assertEqual(caught(lambda: ways_of(table, thing)), ("BadCell", thing))


class Passed(unittest.TestCase):

    def test_nothing_that_is_passed_in_is_changed(self):
        past = History(ROW, EXAMPLE, [("goes", [2], 1, [])])
        table = table_behind(past, 2)
        table.history_of(table.views[-1])
        self.assertEqual(past, History(ROW, EXAMPLE, [("goes", [2], 1, [])]))
        self.assertEqual(table, table_behind(past, 2))
        self.assertIn(Come([0]), list(plain_steps(EXAMPLE, table.views[0])))
