"""[5.7] to [5.9]: where steps lead, dangers, and the walk of a history through views."""

import inspect
import random
import unittest

from helpers import FORK, NO_NUMBERS, PAIR, RING, ROW, caught, look, some_deeds, some_histories, tuples_only
from landways.counted import Counted, counteds
from landways.customs import Custom, custom_at
from landways.deeds import is_counted
from landways.histories import History
from landways.lands import Land
from landways.listing import plain_steps
from landways.seeing import see_step
from landways.states import start_state
from landways.steps import Come, Leave
from landways.tables import Table, table_behind, view_table
from landways.views import start_view, view_at, view_of
from landways.walks import (all_dangers, danger_of, first_leaving, lost_views, retold, safe_views, view_walk)

EXAMPLE = Custom("needed stay", "sleep", "none", "need", "never")
SINK = Custom("die", "die", "need", "need", "never")
VEE = Land(3, [(0, 1), (0, 2)], [1, 2])


def some_tables(seed):
    """Tables of drawn pasts, sorts of counted deeds and cells."""
    source = random.Random(seed)
    for number in range(0, 192, 3):
        custom = custom_at(number)
        land = (PAIR, ROW, VEE, RING)[source.randrange(4)]
        past = History(land, custom, some_deeds(source, land, custom, source.randrange(4)))
        yield table_behind(past, source.randrange(land.cells), Counted(*source.choices([False, True], k=3)))


def leads(table):
    """For each number of a view the numbers of the views behind its steps."""
    return {view.number: [see_step(table.custom, view, step).number
                          for step in plain_steps(table.custom, view, table.counted)] for view in table.views}


def steps_until(table, goals):
    """For each number of a view the least number of steps to one of the goals, by trying more and more steps."""
    ends = leads(table)
    least = {number: 0 if number in goals else None for number in ends}
    for many in range(1, len(ends) + 1):
        near = [number for number in ends if least[number] is None and
                any(least[behind] == many - 1 for behind in ends[number])]
        least.update({number: many for number in near})
    return least


class Leaving(unittest.TestCase):

    def test_closed_tables(self):
        for table in some_tables(81):
            self.assertIsNone(first_leaving(table))

    def test_tables_with_rows_left_out(self):
        source = random.Random(82)
        for table in some_tables(83):
            rows = tuple(row for row in table.rows if row[1] == 0 or source.random() < 0.6)
            short = Table(table.past, table.cell, table.counted, rows)
            expected = None
            for view in short.views:
                for step in plain_steps(table.custom, view, table.counted):
                    behind = see_step(table.custom, view, step)
                    if expected is None and behind not in short:
                        expected = (view, step, behind)
            self.assertEqual(first_leaving(short), expected)

    def test_tables_that_no_function_has_told(self):
        past = History(ROW, EXAMPLE)
        table = Table(past, 2, Counted(False, False, False), ((look(ROW, "2: .."), 7, None, None),))
        view, step, behind = first_leaving(table)
        self.assertEqual((view, step, behind), (look(ROW, "2: .."), Come([0]), look(ROW, "2: o.")))
        table = Table(past, 2, Counted(), ((start_view(ROW, 2), 0, None, None),) * 2)
        self.assertEqual(first_leaving(table), (start_view(ROW, 2), Leave([0]), look(ROW, "2: no")))


class Dangers(unittest.TestCase):

    def test_as_walked_again(self):
        for table in some_tables(84):
            shut = [view.number for view in table.views if not view.is_open()]
            least = steps_until(table, shut)
            dangers = all_dangers(table)
            self.assertEqual(dangers, tuple(least[view.number] for view in table.views))
            self.assertEqual(safe_views(table), tuple(view for view in table.views if least[view.number] is None))
            for view in table.views[::3]:
                self.assertEqual(danger_of(table, view), least[view.number])
            self.assertTrue(tuples_only((dangers, safe_views(table), lost_views(table))))

    def test_lost_views_as_walked_again(self):
        for table in some_tables(85):
            least = steps_until(table, [table.views[0].number])
            self.assertEqual(lost_views(table), tuple(view for view in table.views if least[view.number] is None))
            self.assertNotIn(table.views[0], lost_views(table))

    def test_safe_and_lost(self):
        one = Custom("stay", "sleep", "none", "all", "never")
        table = view_table(PAIR, one, 0, Counted(False, False, False))
        texts = [look(PAIR, "0: " + sign) for sign in "o.as"]
        self.assertEqual(table.views, tuple(texts))
        self.assertEqual(all_dangers(table), (1, 0, None, None))
        self.assertEqual(safe_views(table), (texts[2], texts[3]))
        self.assertEqual(lost_views(table), (texts[2], texts[3]))
        self.assertEqual([danger_of(table, view) for view in texts], [1, 0, None, None])

    def test_a_start_in_danger_0(self):
        past = History(PAIR, Custom("stay", "die", "none", "none", "never"), [("goes", [0], 1, [])])
        table = table_behind(past, 0)
        self.assertEqual(all_dangers(table)[0], 0)
        self.assertEqual(danger_of(table, view_of(past.state, 0)), 0)

    def test_road_cells_are_safe(self):
        table = view_table(ROW, EXAMPLE, 0)
        self.assertEqual(set(all_dangers(table)), {None})
        self.assertEqual(safe_views(table), table.views)

    def test_views_that_are_not_in_the_table(self):
        table = view_table(PAIR, Custom("stay", "die", "all", "all", "never"), 0)
        for thing in (look(PAIR, "0: n"), look(PAIR, "1: o"), None, 0, "0: o", True, start_state(PAIR)):
            self.assertEqual(caught(lambda: danger_of(table, thing)), ("NoView", thing))


class Walks(unittest.TestCase):

    def test_the_example(self):
        deeds = [("goes", [0, 1], 1, []), ("goes", [1], 0, []), ("goes", [1, 0], 2, [(2, 1)]), ("goes", [0], 3, [(2, 0)]),
                 ("goes", [1], 3, [])]
        walk = list(view_walk(History(ROW, EXAMPLE, deeds), 2))
        self.assertEqual(walk, [(look(ROW, "2: oo"), None), (look(ROW, "2: nn"), Leave([0, 1])),
                                (look(ROW, "2: ns"), Come([1])), (look(ROW, "2: na"), Leave([1])),
                                (look(ROW, "2: na"), None), (look(ROW, "2: n."), Leave([], [1]))])

    def test_drawn_histories(self):
        for history in some_histories(86, many=8):
            for cell in range(history.land.cells):
                walk = list(view_walk(history, cell))
                self.assertEqual([row[0] for row in walk], [view_of(state, cell) for state in history.states()])
                self.assertIsNone(walk[0][1])
                for k in range(1, len(walk)):
                    (ahead, _), (view, step) = walk[k - 1], walk[k]
                    self.assertIs(step is None, view == ahead)
                    if step is not None:
                        self.assertEqual(see_step(history.custom, ahead, step), view)
                        steps = list(plain_steps(history.custom, ahead, Counted(True, True, True)))
                        self.assertIn(step, steps)

    def test_it_is_a_generator(self):
        self.assertTrue(inspect.isgeneratorfunction(view_walk))
        self.assertEqual(list(view_walk(History(ROW, EXAMPLE), 1)), [(start_view(ROW, 1), None)])

    def test_what_is_no_cell(self):
        for thing in (-1, 3, *NO_NUMBERS):
            self.assertEqual(caught(lambda: list(view_walk(History(ROW, EXAMPLE), thing))), ("BadCell", thing))
            self.assertEqual(caught(lambda: retold(History(ROW, EXAMPLE), thing)), ("BadCell", thing))


class Retold(unittest.TestCase):

    def check(self, history, cell, counted):
        short = retold(history, cell, counted)
        self.assertEqual((short.land, short.custom), (history.land, history.custom))
        view = view_of(history.state, cell)
        self.assertEqual(view_of(short.state, cell), view)
        self.assertIs(short.is_counted(counted), True)
        changes = [step for _, step in view_walk(short, cell) if step is not None]
        table = view_table(history.land, history.custom, cell, counted)
        self.assertEqual(len(changes), table.distance(view))
        self.assertLessEqual(len(short), 2 * len(changes))

    def test_drawn_histories(self):
        everything = Counted(True, True, True)
        for history in some_histories(87, range(0, 192, 3), many=10, lands=(PAIR, ROW, VEE, FORK)):
            for cell in range(history.land.cells):
                self.check(history, cell, everything)

    def test_counted_parts_of_histories(self):
        for history in some_histories(88, range(1, 192, 5), many=8, lands=(PAIR, ROW, VEE)):
            for counted in counteds():
                wrong = [k for k, deed in enumerate(history) if not is_counted(counted, history.state_at(k), deed)]
                if wrong:
                    self.assertEqual(caught(lambda: retold(history, 1, counted)), ("NotCounted", wrong[0]))
                    self.check(history.until(wrong[0]), 1, counted)
                else:
                    self.check(history, 1, counted)

    def test_the_cell_is_asked_first(self):
        history = History(ROW, EXAMPLE, [("goes", [2], 1, []), ("grant", [2], [0]), ("gives", [2], [0])])
        self.assertEqual(caught(lambda: retold(history, 3)), ("BadCell", 3))
        self.assertEqual(caught(lambda: retold(history, 2)), ("NotCounted", 2))
        self.assertEqual(caught(lambda: retold(history, 2, None)), ("NotCounted", 2))
        self.assertEqual(caught(lambda: retold(history, 2, Counted(False))), ("NotCounted", 1))
        self.assertEqual(retold(history, 2, counted=Counted(giving_up=True)), retold(history.until(1), 2))

    def test_nothing_to_tell(self):
        self.assertEqual(retold(History(ROW, EXAMPLE), 2), History(ROW, EXAMPLE))
        view = view_at(ROW, 2, 0)
        history = History(ROW, SINK, [("goes", [0, 1, 2], 4, [])])
        self.assertEqual((view_of(history.state, 2), len(retold(history, 2))), (view, 0))
