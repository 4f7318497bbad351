"""[5.12], [5.13]: judges of tables and verdicts."""

import random
import unittest

from helpers import PAIR, RING, ROW, in_order, look, some_deeds
from landways.counted import Counted, counteds
from landways.customs import Custom, custom_at
from landways.histories import History
from landways.lands import Land
from landways.listing import plain_steps
from landways.seeing import see_step
from landways.steps import Come, Give, Go, Grant, Leave
from landways.tablejudge import anybody_fault, table_fault, verdict_fault
from landways.tables import Table, table_behind, view_table
from landways.verdicts import Never, Nobody, Shut, anybody_behind, verdict_behind
from landways.views import start_view, view_of

EXAMPLE = Custom("needed stay", "sleep", "none", "need", "never")
KIND = Custom("stay", "die", "all", "all", "never")
BARE = Custom("stay", "die", "none", "none", "never")
VEE = Land(3, [(0, 1), (0, 2)], [1, 2])
PAST = History(ROW, EXAMPLE, [("goes", [2], 1, [])])


def some_pasts(seed):
    """Drawn pasts with a cell and a Counted."""
    source = random.Random(seed)
    for number in range(0, 192, 5):
        custom = custom_at(number)
        land = (PAIR, ROW, VEE, RING)[source.randrange(4)]
        past = History(land, custom, some_deeds(source, land, custom, source.randrange(4)))
        yield past, source.randrange(land.cells), Counted(*source.choices([False, True], k=3))


class Tables(unittest.TestCase):

    def setUp(self):
        self.table = view_table(ROW, EXAMPLE, 2)
        self.rows = self.table.rows

    def fault(self, rows, **given):
        told = dict(past=self.table.past, cell=2, counted=self.table.counted)
        return table_fault(Table(rows=rows, **{**told, **given}))

    def with_row(self, k, *parts):
        """The rows with this one in the place of row k."""
        return self.rows[:k] + (tuple(parts),) + self.rows[k + 1:]

    def test_right_tables(self):
        for past, cell, counted in some_pasts(101):
            self.assertIsNone(table_fault(table_behind(past, cell, counted)))

    def test_other_steps_are_as_right(self):
        for past, cell, counted in some_pasts(102):
            table = table_behind(past, cell, counted)
            rows = [table.rows[0]]
            for view, distance, _, _ in table.rows[1:]:
                ways = [(index, step) for index, row in enumerate(table.rows) if row[1] == distance - 1
                        for step in plain_steps(past.custom, row[0], counted)
                        if see_step(past.custom, row[0], step) == view]
                rows.append((view, distance, *ways[-1]))
            self.assertIsNone(table_fault(Table(past, cell, counted, tuple(rows))))

    def test_rows(self):
        view, distance, before, step = self.rows[3]
        for rows in ((), None, list(self.rows), 0, "rows", self.rows[0][0], (None,), (self.rows[0][:3],), (list(self.rows[0]),),
                     (self.rows[0] + (None,),)):
            self.assertEqual(self.fault(rows), "rows", rows)
        for parts in [(None, distance, before, step), (view.number, distance, before, step),
                      (start_view(ROW, 1), distance, before, step), (start_view(VEE, 2), distance, before, step),
                      (view, -1, before, step), (view, True, before, step), (view, None, before, step),
                      (view, "1", before, step), (view, distance, -1, step), (view, distance, True, step),
                      (view, distance, len(self.rows), step), (view, distance, "0", step),
                      (view, distance, before, "step"), (view, distance, before, (step.kind, step.cells, step.others)),
                      (view, distance, before, 0)]:
            self.assertEqual(self.fault(self.with_row(3, *parts)), "rows", parts)
        self.assertEqual(self.fault(self.rows, cell=1), "rows")
        self.assertEqual(self.fault(self.rows, past=History(VEE, EXAMPLE)), "rows")

    def test_start(self):
        view, _, _, _ = self.rows[0]
        for parts in [(look(ROW, "2: nn"), 0, None, None), (view, 1, None, None), (view, 0, 0, None),
                      (view, 0, None, Leave([0]))]:
            self.assertEqual(self.fault(self.with_row(0, *parts)), "start")
        self.assertEqual(self.fault(self.rows[1:2]), "start")
        self.assertEqual(self.fault(self.rows, past=PAST), "start")

    def test_double(self):
        self.assertEqual(self.fault(self.rows + self.rows[-1:]), "double")
        self.assertEqual(self.fault(self.rows + ((self.rows[0][0], 1, 0, Come([0])),)), "double")

    def test_before(self):
        view, distance, before, step = self.rows[-1]
        last = len(self.rows) - 1
        for wrong in (None, 0, last, last - 1):
            self.assertEqual(self.fault(self.with_row(last, view, distance, wrong, step)), "before")
        self.assertEqual(self.fault(self.with_row(last, view, distance + 1, before, step)), "before")
        view, distance, _, step = self.rows[1]
        for wrong in (None, 1, 2, last):
            self.assertEqual(self.fault(self.with_row(1, view, distance, wrong, step)), "before")

    def test_step(self):
        view, distance, before, step = self.rows[1]
        for wrong in (None, Give([0]), Come([0]), Leave([2]), Leave([0], [1]), Go([2], [0]), Grant([4])):
            self.assertEqual(self.fault(self.with_row(1, view, distance, before, wrong)), "step", wrong)
        self.assertIn(step, list(plain_steps(EXAMPLE, self.rows[before][0])))

    def test_steps_that_are_not_plain_or_not_counted(self):
        table = table_behind(PAST, 2)
        place = [k for k, row in enumerate(table.rows) if row[3] == Come([0])][0]
        view, distance, before, _ = table.rows[place]
        rows = table.rows[:place] + ((view, distance, before, Go([2], [0])),) + table.rows[place + 1:]
        self.assertEqual(see_step(EXAMPLE, table.rows[before][0], Go([2], [0])), view)
        self.assertEqual(table_fault(Table(PAST, 2, Counted(), rows)), "step")
        granted = [row for row in table.rows if row[3] is not None and row[3].kind == "grant"]
        self.assertTrue(granted)
        self.assertEqual(table_fault(Table(PAST, 2, Counted(grants=False), table.rows)), "step")

    def test_order(self):
        many = len(self.rows)
        self.assertIsNone(self.fault(in_order(self.rows, range(many))))
        for k in range(1, many - 1):
            order = [*range(k), k + 1, k, *range(k + 2, many)]
            self.assertEqual(self.fault(in_order(self.rows, order)), "order")
        self.assertEqual(self.fault(in_order(self.rows, [0, *reversed(range(1, many))])), "order")

    def test_closed(self):
        self.assertEqual(self.fault(self.rows[:-1]), "closed")
        self.assertEqual(self.fault(self.rows[:1]), "closed")
        fewer = view_table(ROW, KIND, 2, Counted(False, False, False))
        self.assertEqual(table_fault(Table(fewer.past, 2, Counted(True, True, True), fewer.rows)), "closed")

    def test_nearer_by_deeds_that_were_not_counted(self):
        fewer = view_table(ROW, EXAMPLE, 2, Counted(False, False, False))
        self.assertIsNone(table_fault(fewer))
        self.assertEqual(table_fault(Table(fewer.past, 2, Counted(True, True, True), fewer.rows)), "nearer")

    def test_nearer(self):
        rows, wanted = self.rows, None
        for k, (view, distance, before, step) in enumerate(rows):
            for index, row in enumerate(rows):
                if wanted is None and row[1] == distance == 2:
                    for other in plain_steps(EXAMPLE, row[0]):
                        if wanted is None and index != k and see_step(EXAMPLE, row[0], other) == view and \
                                not any(later[2] == k for later in rows):
                            wanted = (k, index, other)
        place, index, other = wanted
        moved = (rows[place][0], 3, index if index < place else index - 1, other)
        left = [row if row[2] is None or row[2] < place else (row[0], row[1], row[2] - 1, row[3])
                for row in rows[:place] + rows[place + 1:]]
        keys = [(row[1], row[0].number) for row in left]
        at = len([key for key in keys if key < (3, moved[0].number)])
        left = [row if row[2] is None or row[2] < at else (row[0], row[1], row[2] + 1, row[3]) for row in left]
        self.assertEqual(self.fault(tuple(left[:at] + [moved] + left[at:])), "nearer")

    def test_the_first_of_two_words(self):
        rows = self.rows
        view, distance, before, step = rows[-1]
        doubled = rows + ((rows[3][0], 9, None, None),)
        self.assertEqual(self.fault(doubled), "double")
        self.assertEqual(self.fault(((rows[0][0], 1, None, None),) + doubled[1:]), "start")
        self.assertEqual(self.fault(((rows[0][0], 1, None, None),) + rows[1:] + (None,)), "rows")
        self.assertEqual(self.fault(self.with_row(1, rows[1][0], 1, 0, None)[:-1] + ((view, distance, 0, step),)), "before")
        self.assertEqual(self.fault(self.with_row(1, rows[1][0], 1, 0, None)[:-1]), "step")
        self.assertEqual(self.fault((rows[0], rows[2], rows[1])), "order")
        self.assertEqual(self.fault((rows[0], rows[2])), "closed")


class Verdicts(unittest.TestCase):

    def test_right_verdicts(self):
        for past, cell, counted in some_pasts(103):
            self.assertIsNone(verdict_fault(past, cell, counted, verdict_behind(past, cell, counted)))
        for cell in range(3):
            for told in (verdict_behind(PAST, cell), verdict_behind(PAST, cell, Counted())):
                self.assertIsNone(verdict_fault(PAST, cell, None, told))
                self.assertIsNone(verdict_fault(PAST, cell, Counted(), told))

    def test_kind(self):
        table = view_table(ROW, KIND, 2)
        for thing in (None, table, "never", True, Nobody((table,)), (Never(table),)):
            self.assertEqual(verdict_fault(History(ROW, KIND), 2, None, thing), "kind")

    def test_never_asked(self):
        past, never = History(ROW, KIND), Never(view_table(ROW, KIND, 2))
        self.assertIsNone(verdict_fault(past, 2, None, never))
        self.assertEqual(verdict_fault(past, 1, None, never), "asked")
        self.assertEqual(verdict_fault(past, 2, Counted(False), never), "asked")
        self.assertEqual(verdict_fault(past.then(("goes", [2], 1, [])), 2, None, never), "asked")
        self.assertEqual(verdict_fault(History(ROW, BARE), 2, None, never), "asked")
        one = view_table(ROW, KIND, 1)
        self.assertIsNone(verdict_fault(past, 1, None, Never(one)))
        self.assertEqual(verdict_fault(past, 1, None, Never(Table(past, True, Counted(), one.rows))), "asked")
        self.assertEqual(table_fault(Table(past, True, Counted(), one.rows)), "rows")
        other = Table(past, 2, None, never.table.rows)
        self.assertEqual(verdict_fault(past, 2, None, Never(other)), "asked")

    def test_never_table(self):
        past, table = History(ROW, KIND), view_table(ROW, KIND, 2)
        for rows in (table.rows[:-1], (), table.rows + table.rows[1:2], list(table.rows)):
            self.assertEqual(verdict_fault(past, 2, None, Never(Table(past, 2, Counted(), rows))), "table")
        wrong = Never(Table(past, 2, Counted(False), table.rows[:-1]))
        self.assertEqual(verdict_fault(past, 2, None, wrong), "asked")

    def test_never_shut(self):
        past, table = History(ROW, BARE), view_table(ROW, BARE, 2)
        self.assertEqual(verdict_fault(past, 2, None, Never(table)), "shut")
        short = Table(past, 2, Counted(), table.rows[:-1])
        self.assertEqual(verdict_fault(past, 2, None, Never(short)), "table")

    def test_shut_asked(self):
        told = verdict_behind(PAST, 2)
        history = told.history
        self.assertIsNone(verdict_fault(PAST, 2, None, told))
        self.assertEqual(verdict_fault(PAST, 1, None, told), "asked")
        for cell in (True, None, 5, "2"):
            self.assertEqual(verdict_fault(PAST, 2, None, Shut(cell, history, told.steps)), "asked")
        past = History(ROW, BARE)
        one = past.then(("goes", [1], 1, []))
        self.assertIsNone(verdict_fault(past, 1, None, Shut(1, one, 1)))
        self.assertEqual(verdict_fault(past, 1, None, Shut(True, one, 1)), "asked")
        self.assertEqual(verdict_fault(History(ROW, BARE, PAST.deeds), 2, None, told), "asked")
        self.assertEqual(verdict_fault(History(VEE, EXAMPLE, PAST.deeds), 2, None, told), "asked")
        self.assertEqual(verdict_fault(PAST.then(("goes", [1], 4, [])), 2, None, told), "asked")
        self.assertEqual(verdict_fault(PAST, 2, None, Shut(2, History(ROW, EXAMPLE, [("goes", [2], 4, [])]), 0)), "asked")

    def test_shut_counted(self):
        past = History(ROW, KIND)
        deeds = [("goes", [2], 1, []), ("gives", [2], [0, 1])]
        told = Shut(2, past.then(*deeds), 2)
        self.assertIsNone(verdict_fault(past, 2, Counted(giving_up=True), told))
        self.assertEqual(verdict_fault(past, 2, None, told), "counted")
        self.assertEqual(verdict_fault(past, 2, None, Shut(2, past.then(*deeds, ("goes", [2], 0, [])), 7)), "counted")
        self.assertEqual(verdict_fault(past, 2, None, Shut(1, past.then(*deeds), 7)), "asked")

    def test_past_deeds_need_not_be_counted(self):
        past = History(ROW, KIND, [("goes", [2], 1, []), ("gives", [2], [0, 1])])
        self.assertIsNone(verdict_fault(past, 2, Counted(False, False, False), Shut(2, past, 0)))

    def test_shut_open(self):
        past = History(ROW, BARE)
        told = Shut(2, past.then(("goes", [2], 1, []), ("goes", [2], 0, [])), 2)
        self.assertEqual(verdict_fault(past, 2, None, told), "open")
        self.assertEqual(verdict_fault(past, 2, None, Shut(2, past, 1)), "open")

    def test_shut_steps(self):
        past = History(ROW, BARE)
        one = past.then(("goes", [2], 1, []))
        for steps in (0, 2, -1, True, None, "1"):
            self.assertEqual(verdict_fault(past, 2, None, Shut(2, one, steps)), "steps")
        self.assertIsNone(verdict_fault(past, 2, None, Shut(2, one, 1)))
        self.assertIsNone(verdict_fault(past, 2, None, Shut(2, one.then(("goes", [2], 3, [])), 1)))
        longer = past.then(("goes", [0], 1, []), ("goes", [1], 1, []))
        self.assertIn(2, longer.state.shut)
        self.assertEqual(verdict_fault(past, 2, None, Shut(2, longer, 2)), "steps")
        self.assertEqual(verdict_fault(past, 2, None, Shut(2, longer, 1)), "steps")

    def test_a_history_that_no_function_has_told(self):
        past = History(ROW, BARE)
        longer = past.then(("goes", [0, 1, 2], 4, []), ("goes", [0, 1], 7, []), ("goes", [2], 9, []))
        self.assertIsNone(verdict_fault(past, 2, None, Shut(2, longer, 1)))


class Anybody(unittest.TestCase):

    def test_right_ones(self):
        for past, _, counted in some_pasts(104):
            self.assertIsNone(anybody_fault(past, counted, anybody_behind(past, counted)))
        for counted in counteds():
            self.assertIsNone(anybody_fault(PAST, counted, anybody_behind(PAST, counted)))
        self.assertIsNone(anybody_fault(PAST, None, anybody_behind(PAST)))

    def test_kind(self):
        table = view_table(ROW, KIND, 2)
        for thing in (None, table, Never(table), (table,), "nobody", 0):
            self.assertEqual(anybody_fault(History(ROW, KIND), None, thing), "kind")

    def test_tables(self):
        past = History(ROW, KIND)
        tables = anybody_behind(past).tables
        self.assertIsNone(anybody_fault(past, None, Nobody(tables)))
        for wrong in ((), tables[:2], tables + tables[:1], tuple(reversed(tables)), tables[:2] + tables[1:2],
                      tables[:2] + (None,), tables[:2] + (Never(tables[2]),), None,
                      tables[:2] + (Table(past, 2, Counted(), tables[2].rows[:-1]),),
                      tables[:2] + (view_table(ROW, KIND, 2, Counted(False)),)):
            self.assertEqual(anybody_fault(past, None, Nobody(wrong)), "tables")
        bare = History(ROW, BARE)
        shut = Nobody(tuple(table_behind(bare, cell) for cell in range(3)))
        self.assertEqual(anybody_fault(bare, None, shut), "tables")

    def test_cell(self):
        past = History(ROW, BARE)
        for cell in (-1, 3, True, None, "1"):
            self.assertEqual(anybody_fault(past, None, Shut(cell, past, 9)), "cell")

    def test_the_word_of_the_verdict(self):
        past, told = History(ROW, BARE), anybody_behind(History(ROW, BARE))
        self.assertEqual(anybody_fault(past, None, Shut(1, PAST, 1)), "asked")
        self.assertEqual(anybody_fault(past, None, Shut(0, told.history, 1)), "open")
        self.assertEqual(anybody_fault(past, None, Shut(1, told.history, 2)), "steps")
        kind = History(ROW, KIND, [("goes", [2], 1, []), ("gives", [2], [0, 1])])
        self.assertEqual(anybody_fault(History(ROW, KIND), None, Shut(2, kind, 2)), "counted")

    def test_fewest(self):
        past = History(ROW, BARE)
        told = verdict_behind(past, 2)
        self.assertIsNone(verdict_fault(past, 2, None, told))
        self.assertEqual(anybody_fault(past, None, told), "fewest")
        later = past.then(("goes", [2], 1, []))
        self.assertEqual(anybody_fault(later, None, verdict_behind(later, 1)), "fewest")
        self.assertIsNone(anybody_fault(later, None, verdict_behind(later, 2)))
        self.assertEqual(view_of(later.state, 2).is_open(), False)
