"""[10.8]: the judge of grants that keep a cell open."""

import random
import unittest

from helpers import ROW, VEE, some_counted
from landways.counted import Counted
from landways.customs import Custom
from landways.histories import History
from landways.keeping import Keeping, keeping_grants, with_grants
from landways.keepjudge import keeping_fault
from landways.tables import Table, table_behind, view_table
from landways.verdicts import Never, Shut, verdict_behind
from test_keeping import some_pasts

SLEEPY = Custom("stay", "sleep", "none", "none", "never")
BARE = Custom("stay", "die", "none", "none", "never")


class Judge(unittest.TestCase):

    def setUp(self):
        self.asked = (History(VEE, SLEEPY, [("goes", [0], 1, [])]), 0, Counted())
        told = keeping_grants(*self.asked)
        self.good, self.bad = told.good, told.bad

    def fault(self, good, bad):
        return keeping_fault(*self.asked, Keeping(good, bad))

    def test_right_ones(self):
        self.assertEqual([lot for lot, _ in self.good + self.bad], [(1,), (2,), ()])
        self.assertIsNone(self.fault(self.good, self.bad))
        source = random.Random(481)
        for history in some_pasts(482, range(0, 192, 3)):
            cell, counted = source.randrange(history.land.cells), some_counted(source)
            self.assertIsNone(keeping_fault(history, cell, counted, keeping_grants(history, cell, counted)))

    def test_rows(self):
        for thing in (None, True, (self.good, self.bad), "keeping", self.good[0][1]):
            self.assertEqual(keeping_fault(*self.asked, thing), "rows")
        for rows in (None, list(self.good), "ab", (None,), ((1,),), ((1, 2, 3),), (list(self.good[0]),), {}, self.good[0][1]):
            self.assertEqual(self.fault(rows, self.bad), "rows")
            self.assertEqual(self.fault(self.good, rows), "rows")

    def test_lots(self):
        first, second = self.good
        for good, bad in ((self.good[:1], self.bad), (self.good[::-1], self.bad), (self.good + self.good[:1], self.bad),
                          ((), self.bad), (self.good, ()), (self.bad, self.good), (self.good, self.bad + self.bad),
                          (self.good, self.bad + (((1, 2), second[1]),)), (self.good + (((1, 2), second[1]),), self.bad),
                          (self.good[:1], self.bad + (second,) + (((1, 2), second[1]),)), ((), ())):
            self.assertEqual(self.fault(good, bad), "lots")
        for lot in ((True,), [1], None, 1, (0,), (3,), (-1,), (1, 1), "1", ("1",), (2, 1)):
            self.assertEqual(self.fault(((lot, first[1]), second), self.bad), "lots")
        self.assertEqual(self.fault(self.good, (([], self.bad[0][1]),)), "lots")

    def test_lots_where_lesser_ones_are_told_good(self):
        never = self.good[0][1]
        self.assertEqual(self.fault((((), never),), ()), "good")
        self.assertEqual(self.fault((((), never),) + self.good, ()), "lots")
        rows = self.bad + (((1,), self.bad[0][1]), ((2,), self.bad[0][1]), ((1, 2), self.bad[0][1]))
        self.assertEqual(self.fault((), rows), "bad")

    def test_good(self):
        (lot, never), second = self.good
        past = with_grants(self.asked[0], 0, lot)
        table = never.table
        for paper in (None, self.bad[0][1], second[1], Never(table_behind(self.asked[0], 0)), Never(view_table(VEE, SLEEPY, 0)),
                      Never(table_behind(past, 0, Counted(False))), Never(table_behind(past, 1)),
                      Never(Table(past, 0, Counted(), table.rows[:-1])), Never(Table(past, False, Counted(), table.rows)),
                      Never(table_behind(with_grants(self.asked[0], 0, (1, 2)), 0))):
            self.assertEqual(self.fault(((lot, paper), second), self.bad), "good")
        # A right verdict, but it tells that the lot does not keep the cell.
        self.assertEqual(self.fault((((), self.bad[0][1]),), ()), "good")
        # The table is right, but the cell is shut off in it.
        history = History(ROW, BARE, [("goes", [2], 1, [])])
        told = keeping_grants(history, 2)
        rows = tuple((lot, Never(table_behind(with_grants(history, 2, lot), 2))) for lot in ((),))
        self.assertEqual(keeping_fault(history, 2, Counted(), Keeping(rows, ())), "good")
        self.assertIsNone(keeping_fault(history, 2, Counted(), told))

    def test_bad(self):
        shut = self.bad[0][1]
        past = self.asked[0]
        for paper in (None, self.good[0][1], Shut(0, past, 1), Shut(1, past, 0), Shut(False, past, 0), Shut(0, past, None),
                      Shut(0, past, False), Shut(0, History(VEE, SLEEPY), 0), Shut(0, with_grants(past, 0, [1]), 0),
                      Shut(0, past.then(("goes", [0], 0, [])), 0)):
            self.assertEqual(self.fault(self.good, (((), paper),)), "bad")
        self.assertEqual((shut.steps, shut.history), (0, past))
        # Any history that begins with the grants and goes on by counted deeds will do.
        self.assertIsNone(self.fault(self.good, (((), Shut(0, past.then(("goes", [0], 2, [])), 0)),)))
        # A right verdict, but it tells that the lot keeps the cell.
        both = verdict_behind(with_grants(past, 0, (1, 2)), 0)
        self.assertEqual(self.fault((), self.bad + self.good + (((1, 2), both),)), "bad")
        # A deed that is not counted.
        history = History(ROW, BARE.changed("kept", "all").changed("sold", "all"), [("goes", [2], 1, [])])
        dying = History(ROW, history.custom.changed("untold", "die"), history.deeds)
        told = keeping_grants(dying, 2, Counted(True, True, False))
        self.assertEqual([lot for lot, _ in told.bad], [()])
        self.assertEqual(keeping_fault(dying, 2, Counted(True, False, False), told), "bad")

    def test_asked_of_another_history_or_cell(self):
        told = Keeping(self.good, self.bad)
        other = History(VEE, SLEEPY, [("goes", [0], 2, [])])
        self.assertEqual(keeping_fault(other, 0, Counted(), told), "good")
        self.assertEqual(keeping_fault(self.asked[0], 1, Counted(), told), "lots")
        self.assertEqual(keeping_fault(self.asked[0], 0, Counted(grants=False), told), "good")

    def test_two_faults_at_once(self):
        first, second = self.good
        self.assertEqual(self.fault(list(self.good[:1]), self.bad), "rows")
        self.assertEqual(self.fault(((1,), second), self.bad[1:]), "rows")
        self.assertEqual(self.fault((((1,), None),), (((), None),)), "lots")
        self.assertEqual(self.fault((((1,), None), second), (((), None),)), "good")
        self.assertEqual(self.fault((first, second), (((), verdict_behind(self.asked[0], 1)),)), "bad")
