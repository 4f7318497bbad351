"""[10.5], [10.6]: judges of judgments and of mends."""

import random
import unittest

from helpers import PAIR, ROW, VEE
from landways.burdens import Met, NeverMet, meet
from landways.changes import Change, Pool
from landways.counted import Counted
from landways.customs import Custom, custom_at
from landways.everyland import EveryLand, on_all_lands, probe_land, shutting
from landways.histories import History
from landways.jointtables import JointTable, joint_table, joint_table_behind, joint_table_fault
from landways.mendjudge import judgment_fault, mends_fault
from landways.mends import Mends, least_mends
from landways.tables import Table, table_behind, view_table
from landways.verdicts import Never, Shut, verdict_of
from landways.wishes import Broken, EveryLandWish, Kept, LandWish, Needed, Wish, judge_wish
from test_mends import drawn_cases
from test_wishes import drawn_wishes

KIND = Custom("stay", "die", "all", "all", "never")
BARE = Custom("stay", "die", "none", "none", "never")
NEED = Custom("stay", "die", "need", "need", "never")
NOTHING = Counted(False, False, False)
TRUE_FOR_ONE = ("shut", (True,))


class Judgments(unittest.TestCase):

    def test_what_is_returned_is_right(self):
        source = random.Random(461)
        for wish in drawn_wishes(462, 200):
            custom = custom_at(source.randrange(192))
            self.assertIsNone(judgment_fault(wish, custom, judge_wish(wish, custom)))

    def test_class(self):
        wish = LandWish(ROW, [2])
        told = judge_wish(wish, BARE)
        for thing in (None, True, "kept", told.paper, (wish, BARE, ()), wish):
            self.assertEqual(judgment_fault(wish, BARE, thing), "class")
            self.assertEqual(judgment_fault(Wish(), KIND, thing), "class")

    def test_asked(self):
        wish = LandWish(ROW, [2])
        for custom in (KIND, BARE):
            told = judge_wish(wish, custom)
            for other in (LandWish(ROW, [1]), LandWish(VEE, [2]), LandWish(ROW, [2], NOTHING), Wish(), EveryLandWish(["far"]),
                          LandWish(ROW, [2], bars=["needed"])):
                self.assertEqual(judgment_fault(other, custom, told), "asked")
            self.assertEqual(judgment_fault(wish, NEED, told), "asked")
        self.assertEqual(judgment_fault(wish, KIND, Kept(Wish(), KIND, ())), "asked")
        self.assertEqual(judgment_fault(wish, KIND, Broken(wish, BARE, None, None)), "asked")

    def test_thing(self):
        wish = LandWish(ROW, [1, 2], bars=["needed"])
        told = judge_wish(wish, KIND)
        for papers in ((), told.papers[:4], told.papers + told.papers[:1], told.papers[1:]):
            self.assertEqual(judgment_fault(wish, KIND, Kept(wish, KIND, papers)), "thing")
        self.assertEqual(judgment_fault(Wish(), KIND, Kept(Wish(), KIND, told.papers[:1])), "thing")
        shut = verdict_of(ROW, BARE, 1)
        for thing in (("shut", (0,)), ("shut", (3,)), TRUE_FOR_ONE, ("needed", ()), ("double", (0, 1)), ("far", ()), None,
                      "shut", ("shut", [1]), ("shut", 1), ("shut", (1, 2)), ("needed", (True,)), ("needed", (False,))):
            self.assertEqual(judgment_fault(wish, BARE, Broken(wish, BARE, thing, shut)), "thing")
        self.assertIsNone(judgment_fault(wish, BARE, Broken(wish, BARE, ("shut", (1,)), shut)))
        self.assertEqual(judgment_fault(Wish(), BARE, Broken(Wish(), BARE, ("shut", (1,)), shut)), "thing")

    def test_whether_an_earlier_thing_is_broken_is_not_asked(self):
        wish = LandWish(ROW, [1, 2])
        told = Broken(wish, BARE, ("shut", (2,)), verdict_of(ROW, BARE, 2))
        self.assertIsNone(judgment_fault(wish, BARE, told))
        self.assertEqual(judge_wish(wish, BARE).thing, ("shut", (1,)))

    def test_kind(self):
        papers = {"shut": (verdict_of(ROW, KIND, 1), verdict_of(ROW, BARE, 1)),
                  "double": (meet(ROW, BARE, 0, 1, "double", NOTHING), meet(ROW, KIND, 0, 1, "double", NOTHING)),
                  "needed": (view_table(ROW, KIND, 1, NOTHING), Needed(0, History(ROW, NEED, [("goes", [1], 1, [])]))),
                  "far": (on_all_lands(KIND), shutting(probe_land("far"), BARE, 0))}
        wishes = {"shut": (LandWish(ROW, [1]), ("shut", (1,))),
                  "double": (LandWish(PAIR, [], NOTHING, bars=["double"]), ("double", (0, 1))),
                  "needed": (LandWish(ROW, [], NOTHING, bars=["needed"]), ("needed", (1,))),
                  "far": (EveryLandWish(["far"]), ("far", ()))}
        for word, (wish, thing) in wishes.items():
            for other, (kept, broken) in papers.items():
                many = len(wish.things())
                faults = [judgment_fault(wish, KIND, Kept(wish, KIND, (broken,) * many)),
                          judgment_fault(wish, KIND, Broken(wish, KIND, thing, kept))]
                self.assertEqual(faults, ["kind", "kind"])
                if other != word:
                    self.assertEqual(judgment_fault(wish, KIND, Kept(wish, KIND, (kept,) * many)), "kind")
                    self.assertEqual(judgment_fault(wish, KIND, Broken(wish, KIND, thing, broken)), "kind")
            for paper in (None, True, thing, ()):
                self.assertEqual(judgment_fault(wish, KIND, Kept(wish, KIND, (paper,) * len(wish.things()))), "kind")
                self.assertEqual(judgment_fault(wish, KIND, Broken(wish, KIND, thing, paper)), "kind")


class Papers(unittest.TestCase):
    """The word "paper", for each kind of thing, by right papers that are spoilt in one way."""

    def kept(self, wish, custom, *papers):
        return judgment_fault(wish, custom, Kept(wish, custom, papers))

    def broken(self, wish, custom, thing, paper):
        return judgment_fault(wish, custom, Broken(wish, custom, thing, paper))

    def test_never(self):
        wish = LandWish(ROW, [1])
        self.assertIsNone(self.kept(wish, KIND, Never(view_table(ROW, KIND, 1))))
        table = view_table(ROW, KIND, 1)
        past = History(ROW, KIND, [("goes", [2], 1, [])])
        for other in (view_table(ROW, KIND, 2), view_table(ROW, KIND, 1, NOTHING), view_table(ROW, BARE, 1),
                      view_table(VEE, KIND, 1), Table(past, 1, Counted(), table.rows), Table(table.past, True, Counted(), table.rows),
                      Table(table.past, 1, Counted(), table.rows[:-1]), Table(table.past, 1, Counted(), ())):
            self.assertEqual(self.kept(wish, KIND, Never(other)), "paper")
        # The table is right, but the cell is shut off in it.
        self.assertEqual(self.kept(wish, BARE, Never(view_table(ROW, BARE, 1))), "paper")

    def test_shut(self):
        wish, thing = LandWish(ROW, [1]), ("shut", (1,))
        right = [("goes", [1], 1, [])]
        self.assertIsNone(self.broken(wish, BARE, thing, Shut(1, History(ROW, BARE, right), 1)))
        for paper in (Shut(2, History(ROW, BARE, [("goes", [2], 1, [])]), 1), Shut(1, History(ROW, KIND, right), 1),
                      Shut(1, History(ROW, BARE, right), 2), Shut(1, History(ROW, BARE, right), True),
                      Shut(1, History(ROW, BARE, []), 0), Shut(True, History(ROW, BARE, right), 1),
                      Shut(1, History(ROW, BARE, [("goes", [2], 1, []), *right]), 1)):
            self.assertEqual(self.broken(wish, BARE, thing, paper), "paper")
        one = KIND.changed("untold", "die")
        deeds = [("goes", [0, 2], 1, []), ("goes", [0, 2], 2, [])]
        self.assertIsNone(self.broken(wish, one, thing, Shut(1, History(ROW, one, deeds), 2)))
        told = LandWish(ROW, [1], Counted(untold=False))
        self.assertEqual(self.broken(told, one, thing, Shut(1, History(ROW, one, deeds), 2)), "paper")

    def never_met(self, wish, **other):
        table = joint_table(wish.land, BARE, 0, 1, wish.counted)
        parts = {"past": table.past, "cells": table.cells, "counted": table.counted, "rows": table.rows, **other}
        return NeverMet(parts.get("question", "double"), JointTable(parts["past"], parts["cells"], parts["counted"], parts["rows"]))

    def test_never_met(self):
        wish = LandWish(PAIR, [], NOTHING, bars=["double"])
        self.assertIsNone(self.kept(wish, BARE, self.never_met(wish)))
        rows = joint_table(PAIR, BARE, 0, 1, NOTHING).rows
        for other in (dict(question="crossed"), dict(question=None), dict(cells=(1, 0)), dict(cells=(False, True)),
                      dict(cells=[0, 1]), dict(counted=Counted()), dict(past=History(PAIR, BARE, [("goes", [1], 1, [])])),
                      dict(past=History(PAIR, KIND)), dict(rows=()), dict(rows=rows[:-1]), dict(rows=rows[::-1])):
            self.assertEqual(self.kept(wish, BARE, self.never_met(wish, **other)), "paper", other)
        three = LandWish(ROW, [], NOTHING, bars=["double"])
        papers = [NeverMet("double", joint_table(ROW, BARE, one, two, NOTHING)) for one, two in ((0, 1), (0, 2), (1, 2))]
        self.assertIsNone(self.kept(three, BARE, *papers))
        self.assertEqual(self.kept(three, BARE, papers[0], papers[2], papers[1]), "paper")
        # The tables are right, but tell of another past, other counted deeds or another custom.
        moved = History(PAIR, BARE, [("goes", [0, 1], 1, [])])
        for table in (joint_table_behind(moved, 0, 1, NOTHING), joint_table(PAIR, BARE, 0, 1),
                      joint_table(PAIR, KIND, 0, 1, NOTHING), joint_table(PAIR, BARE, 1, 0, NOTHING)):
            self.assertIsNone(joint_table_fault(table))
            self.assertEqual(self.kept(wish, BARE, NeverMet("double", table)), "paper")
        # The tables are right, but a double burden is in them.
        papers = [NeverMet("double", joint_table(ROW, KIND, one, two, NOTHING)) for one, two in ((0, 1), (0, 2), (1, 2))]
        self.assertEqual(self.kept(three, KIND, *papers), "paper")

    def test_met(self):
        wish, thing = LandWish(ROW, [], Counted(True, False, False), bars=["double"]), ("double", (0, 1))
        told = meet(ROW, KIND, 0, 1, "double", wish.counted)
        deeds, steps = told.history.deeds, told.steps
        self.assertEqual(steps, 2)
        self.assertIsNone(self.broken(wish, KIND, thing, told))
        right = [("goes", [0], 1, []), ("goes", [1], 2, [(0, 1)])]
        self.assertIsNone(self.broken(wish, KIND, thing, Met("double", History(ROW, KIND, right), 2)))
        # Deeds that neither cell sees do not count, but there are at most two for each step.
        unseen = [("goes", [2], 3, [(0, 2), (1, 2)]), ("goes", [2], 4, [(0, 2), (1, 2)]), ("goes", [2], 5, [(0, 2), (1, 2)])]
        self.assertIsNone(self.broken(wish, KIND, thing, Met("double", History(ROW, KIND, right + unseen[:2]), 2)))
        for paper in (Met("crossed", told.history, steps), Met("double", told.history, steps + 1), Met("double", told.history, 1),
                      Met("double", told.history, "2"), Met("double", told.history, None),
                      Met("double", History(ROW, BARE, deeds), steps), Met("double", History(VEE, KIND, deeds), steps),
                      Met("double", History(ROW, KIND, right[:1]), 2), Met("double", History(ROW, KIND, ()), 2),
                      Met("double", History(ROW, KIND, right + unseen), 2),
                      Met("double", History(ROW, KIND, [("goes", [0], 1, []), ("goes", [0], 0, [])]), 2),
                      Met("double", History(ROW, KIND, [("goes", [0], 1, []), ("goes", [0], 0, []), *right]), 2),
                      Met("double", History(ROW, KIND, [("goes", [0, 1], 1, []), ("goes", [1], 2, [])]), 2),
                      Met("double", History(ROW, KIND, [("goes", [0], 1, []), ("goes", [1], 2, [])]), 3)):
            self.assertEqual(self.broken(wish, KIND, thing, paper), "paper")
        untold = [("goes", [0], 1, []), ("goes", [1], 2, [])]
        self.assertEqual(self.broken(wish, KIND, thing, Met("double", History(ROW, KIND, untold), 2)), "paper")
        given = LandWish(ROW, [], NOTHING, bars=["double"])
        deeds = [("goes", [0, 1], 1, []), ("goes", [0], 2, [(1, 0)]), ("grant", [0], [2])]
        self.assertEqual(self.broken(given, KIND, thing, Met("double", History(ROW, KIND, deeds), 2)), "paper")

    def test_free_table(self):
        wish = LandWish(PAIR, [], NOTHING, bars=["needed"])
        right = [view_table(PAIR, KIND, cell, NOTHING) for cell in (0, 1)]
        self.assertIsNone(self.kept(wish, KIND, *right))
        table = right[1]
        past = History(PAIR, KIND, [("goes", [1], 1, [])])
        moved = History(PAIR, KIND, [("goes", [0, 1], 1, [])])
        for other in (right[0], view_table(PAIR, KIND, 1), view_table(PAIR, BARE, 1, NOTHING), Table(past, 1, NOTHING, table.rows),
                      table_behind(moved, 1, NOTHING),
                      Table(table.past, True, NOTHING, table.rows), Table(table.past, 1, NOTHING, table.rows[:-1]),
                      Table(table.past, 1, NOTHING, ()), Table(table.past, 1, NOTHING, table.rows[::-1])):
            self.assertEqual(self.kept(wish, KIND, right[0], other), "paper")
        # The tables are right, but a right is needed in one of them.
        needing = [view_table(PAIR, NEED, cell, NOTHING) for cell in (0, 1)]
        self.assertEqual(self.kept(wish, NEED, *needing), "paper")

    def test_needed(self):
        wish, thing = LandWish(ROW, [], NOTHING, bars=["needed"]), ("needed", (2,))
        right = [("goes", [2], 1, [])]
        self.assertIsNone(self.broken(wish, NEED, thing, Needed(0, History(ROW, NEED, right))))
        longer = [("goes", [0, 1, 2], 3, []), *right, ("goes", [2], 3, []), ("goes", [2], 4, [])]
        self.assertIsNone(self.broken(wish, NEED, thing, Needed(0, History(ROW, NEED, longer))))
        history = History(ROW, NEED, right)
        for paper in (Needed(1, history), Needed(2, history), Needed(False, history), Needed(None, history),
                      Needed(0, History(ROW, NEED, [("goes", [1], 1, [])])), Needed(0, History(ROW, NEED)),
                      Needed(0, History(ROW, NEED.changed("ends", "free"), right)), Needed(0, History(VEE, NEED, right)),
                      Needed(0, History(ROW, NEED, [*right, ("grant", [1], [2])])),
                      Needed(0, History(ROW, NEED, [*right, ("goes", [2], 0, [])]))):
            self.assertEqual(self.broken(wish, NEED, thing, paper), "paper")
        # A road cell needs nothing, and no right is needed without "need".
        self.assertEqual(self.broken(wish, NEED, ("needed", (0,)), Needed(1, history)), "paper")
        self.assertEqual(self.broken(wish, KIND, thing, Needed(0, History(ROW, KIND, right))), "paper")

    def test_every_land(self):
        wish = EveryLandWish(["bound"])
        one = KIND.changed("kept", "beside")
        self.assertIsNone(self.kept(wish, one, EveryLand(one, Counted(), 1, None, None)))
        for paper in (EveryLand(KIND, Counted(), 1, None, None), EveryLand(one, NOTHING, 1, None, None),
                      EveryLand(one, Counted(), None, None, None), EveryLand(one, Counted(), 1, 2, None),
                      EveryLand(one, Counted(), 2, None, None), EveryLand(one, Counted(), True, None, None),
                      EveryLand(one, Counted(), 1, None, 2), EveryLand(one, Counted(), 1, "no", None),
                      EveryLand(one, Counted(), 1, 0, None)):
            self.assertEqual(self.kept(wish, one, paper), "paper")
        self.assertEqual(self.kept(EveryLandWish(["far"]), one, EveryLand(one, Counted(), 1, None, None)), "paper")
        self.assertEqual(self.kept(EveryLandWish(["far"]), one, EveryLand(one, Counted(), None, None, None)), "paper")
        both = EveryLandWish(["loose", "bound"])
        right = EveryLand(one, Counted(), 1, None, None)
        self.assertIsNone(self.kept(both, one, right, right))
        self.assertEqual(self.kept(both, one, right, EveryLand(one, Counted(), 1, 1, None)), "paper")

    def test_shutting(self):
        wish, thing = EveryLandWish(["far", "bound"], Counted(grants=True, untold=False)), ("far", ())
        one = KIND.changed("kept", "beside")
        land = probe_land("far")
        right = [("goes", [1, 2], 1, [])]
        self.assertIsNone(self.broken(wish, one, thing, History(land, one, right)))
        for paper in (History(land, BARE, right), History(probe_land("loose"), one, [("goes", [1, 2, 3], 1, [])]),
                      History(land, one, [("goes", [0, 1, 2], 2, []), *right]), History(land, one, []),
                      History(land, one, [("goes", [0], 1, [])]), History(ROW, one, [("goes", [0, 1], 1, [])])):
            self.assertEqual(self.broken(wish, one, thing, paper), "paper")
        # Bound cells are never shut off here.
        self.assertEqual(self.broken(wish, one, ("bound", ()), History(probe_land("bound"), one, [("goes", [0], 1, [])])), "paper")
        dying = KIND.changed("untold", "die")
        deeds = [("goes", [0], 1, []), ("goes", [1], 2, [])]
        self.assertIsNone(self.broken(EveryLandWish(["bound"]), dying, ("bound", ()), History(probe_land("bound"), dying, deeds)))
        told = EveryLandWish(["bound"], Counted(giving_up=True, untold=False))
        self.assertEqual(self.broken(told, dying, ("bound", ()), History(probe_land("bound"), dying, deeds)), "paper")

    def test_paper_by_paper_and_two_faults_at_once(self):
        wish = LandWish(PAIR, [0], NOTHING, bars=["needed"])
        never, first, second = judge_wish(wish, KIND).papers
        self.assertEqual(self.kept(wish, KIND, Never(view_table(PAIR, KIND, 1, NOTHING)), None, second), "paper")
        self.assertEqual(self.kept(wish, KIND, None, second, first), "kind")
        self.assertEqual(self.kept(wish, KIND, never, second, None), "paper")
        self.assertEqual(self.kept(wish, KIND, never, None, None), "kind")
        self.assertEqual(judgment_fault(wish, KIND, Kept(wish, BARE, ())), "asked")
        self.assertEqual(judgment_fault(wish, KIND, Kept(wish, KIND, (None, None))), "thing")
        self.assertEqual(judgment_fault(wish, KIND, Broken(wish, KIND, ("shut", (1,)), None)), "thing")
        self.assertEqual(judgment_fault(wish, KIND, Broken(wish, KIND, ("shut", (0,)), never)), "kind")


class JudgeOfMends(unittest.TestCase):

    def setUp(self):
        self.pool = Pool([Change("sold", "all"), Change("kept", "all"), Change("untold", "die")])
        self.wish = LandWish(PAIR, [0], Counted())
        self.mends = least_mends(BARE, self.pool, self.wish)

    def fault(self, good, bad):
        return mends_fault(BARE, self.pool, self.wish, Mends(good, bad))

    def test_right_ones(self):
        self.assertEqual([choice for choice, _ in self.mends.good], [(0, 1)])
        self.assertIsNone(self.fault(self.mends.good, self.mends.bad))
        for custom, pool, wish in drawn_cases(463, 80):
            self.assertIsNone(mends_fault(custom, pool, wish, least_mends(custom, pool, wish)))

    def test_rows(self):
        good, bad = self.mends.good, self.mends.bad
        for thing in (None, True, (good, bad), "mends", self.wish, good[0][1]):
            self.assertEqual(mends_fault(BARE, self.pool, self.wish, thing), "rows")
        for rows in (None, list(good), "ab", ((0, 1),) + (None,), (good[0][0],) + ((1, 2, 3),), ((0,),), good[0][1], {}):
            self.assertEqual(self.fault(rows, bad), "rows")
            self.assertEqual(self.fault(good, rows), "rows")
        self.assertEqual(self.fault((list(good[0]),), bad), "rows")

    def test_choices(self):
        good, bad = self.mends.good, self.mends.bad
        first, rest = bad[0], bad[1:]
        for one, other in ((good, rest), (good, bad[::-1]), (good, bad + bad[:1]), (good + good, bad), ((), bad), (good, ()),
                           (good + (first,), rest), (good, bad + good), (bad, good), (good + (((0, 1, 2), good[0][1]),), bad),
                           (good, bad + (((0, 1, 2), first[1]),)), ((), ())):
            self.assertEqual(self.fault(one, other), "choices")
        for choice in ((1, 0), (0, 0), (0, 3), [0, 1], (False, 1), (0, True), None, True, 1, "01", (-1,), ("0", "1")):
            self.assertEqual(self.fault(((choice, good[0][1]),), bad), "choices")
        for choice in ((False,), [0], None, (3,), 0):
            self.assertEqual(self.fault(good, (first, (choice, rest[0][1])) + rest[1:]), "choices")

    def test_choices_where_lesser_ones_are_told_good(self):
        # With (0,) told as good, (0, 1) and (0, 2) have a lesser one.
        rows = dict(self.mends.bad)
        told = ((0,), rows[(0,)])
        bad = tuple((choice, rows[choice]) for choice in ((), (1,), (2,), (1, 2)))
        self.assertEqual(self.fault((told,), bad), "good")
        self.assertEqual(self.fault((told, *self.mends.good), bad), "choices")

    def test_good(self):
        good, bad = self.mends.good, self.mends.bad
        kept = good[0][1]
        for paper in (None, bad[0][1], Kept(self.wish, KIND, ()), Kept(self.wish, BARE, kept.papers), Kept(Wish(), KIND, ()),
                      Kept(self.wish, KIND, (Never(view_table(PAIR, KIND, 1)),)), Broken(self.wish, KIND, ("shut", (0,)), None)):
            self.assertEqual(self.fault((((0, 1), paper),), bad), "good")

    def test_bad(self):
        good, bad = self.mends.good, self.mends.bad
        kept = good[0][1]
        for k, (choice, broken) in enumerate(bad):
            for paper in (None, kept, Broken(self.wish, KIND, broken.thing, broken.paper), Broken(Wish(), broken.custom, None, None),
                          Broken(self.wish, broken.custom, broken.thing, None),
                          Broken(self.wish, broken.custom, ("shut", (1,)), broken.paper)):
                self.assertEqual(self.fault(good, bad[:k] + ((choice, paper),) + bad[k + 1:]), "bad")

    def test_right_judgments_in_the_wrong_place(self):
        told = [(choice, judge_wish(self.wish, self.pool.custom_by(BARE, choice))) for choice in self.pool.lawful_choices()]
        self.assertEqual(self.fault((), tuple(told)), "bad")
        self.assertEqual(self.fault(tuple(told[:1]), ()), "good")

    def test_two_faults_at_once(self):
        good, bad = self.mends.good, self.mends.bad
        self.assertEqual(self.fault(good[0], bad[1:]), "rows")
        self.assertEqual(self.fault((((0, 1), None),), bad[1:]), "choices")
        self.assertEqual(self.fault((((0, 1), None),), (((), None),) + bad[1:]), "good")

    def test_equal_changes_in_a_pool(self):
        pool = Pool([Change("sold", "all"), Change("kept", "all"), Change("sold", "all")])
        mends = least_mends(BARE, pool, self.wish)
        self.assertIsNone(mends_fault(BARE, pool, self.wish, mends))
        self.assertEqual([choice for choice, _ in mends.good], [(0, 1), (1, 2)])
        self.assertEqual(mends_fault(BARE, pool, self.wish, Mends(mends.good[:1], mends.bad)), "choices")
