"""[10.3], [10.4]: wishes, and what is told of them."""

import random
import unittest

from helpers import (CHAIN, FORK, HOUSE, NO_SEQUENCES, PAIR, RING, ROW, VEE, caught, is_played, some_counted, some_deeds,
                     tuples_only)
from landways.burdens import Met, NeverMet, meet
from landways.counted import Counted, counteds
from landways.customs import Custom, custom_at, customs
from landways.deeds import is_counted
from landways.everyland import EveryLand, on_all_lands, probe_land
from landways.histories import History
from landways.joint import joint_view
from landways.mendjudge import judgment_fault
from landways.tables import Table, view_table
from landways.together import burden_on_all_lands
from landways.verdicts import Never, Shut, shuttable, verdict_of
from landways.wishes import Broken, EveryLandWish, Kept, LandWish, Needed, Wish, judge_wish

KIND = Custom("stay", "die", "all", "all", "never")
NEED = Custom("stay", "die", "need", "need", "free")
NOTHING = Counted(False, False, False)
BARS = (("double",), ("needed",), ("double", "needed"), ())
SORTS = ("far", "loose", "bound")
NO_COUNTED = (True, False, 0, "", (True, True, False), [], {}, Counted)


def drawn_wishes(seed, many):
    """Wishes of both kinds, drawn, each with each bar."""
    source = random.Random(seed)
    for k in range(many):
        counted = some_counted(source)
        if k % 4 == 3:
            yield EveryLandWish(source.sample(SORTS, source.randint(1, 3)), counted)
            continue
        land = source.choice((PAIR, ROW, VEE))
        bars = list(BARS[source.randrange(4)])
        cells = source.sample(range(land.cells), source.randint(0 if bars else 1, land.cells))
        yield LandWish(land, cells, counted, bars=source.sample(bars, len(bars)))


class Wishes(unittest.TestCase):

    def test_attributes(self):
        wish = LandWish(ROW, [2, 1], NOTHING, bars=["needed", "double"])
        self.assertEqual((wish.land, wish.cells, wish.counted, wish.bars), (ROW, (1, 2), NOTHING, ("double", "needed")))
        self.assertTrue({"land", "cells", "counted", "bars"} <= set(vars(wish)))
        wish = EveryLandWish(["bound", "far"], NOTHING)
        self.assertEqual((wish.sorts, wish.counted), (("far", "bound"), NOTHING))
        self.assertEqual(EveryLandWish(("bound", "loose", "far")).sorts, SORTS)
        self.assertTrue({"sorts", "counted"} <= set(vars(wish)))
        self.assertEqual(Wish(NOTHING).counted, NOTHING)
        for one in (wish, LandWish(ROW, [0])):
            self.assertIsInstance(one, Wish)

    def test_counted_left_out_none_by_place_and_by_name(self):
        for wish in (Wish(), Wish(None), Wish(counted=None), LandWish(ROW, [1]), LandWish(ROW, [1], None),
                     LandWish(land=ROW, cells=[1], counted=None, bars=()), EveryLandWish(["far"]),
                     EveryLandWish(["far"], None), EveryLandWish(sorts=["far"], counted=None)):
            self.assertEqual(wish.counted, Counted())
        with self.assertRaises(TypeError):
            LandWish(ROW, [1], None, ("double",))

    def test_things(self):
        self.assertEqual(Wish().things(), ())
        self.assertEqual(LandWish(ROW, [2, 0]).things(), (("shut", (0,)), ("shut", (2,))))
        self.assertEqual(LandWish(ROW, [2], bars=["needed", "double"]).things(),
                         (("shut", (2,)), ("double", (0, 1)), ("double", (0, 2)), ("double", (1, 2)),
                          ("needed", (0,)), ("needed", (1,)), ("needed", (2,))))
        self.assertEqual(LandWish(PAIR, [], bars=["double"]).things(), (("double", (0, 1)),))
        self.assertEqual(LandWish(RING, (), bars=("needed",)).things(), tuple(("needed", (cell,)) for cell in range(4)))
        self.assertEqual(EveryLandWish(["bound", "loose"]).things(), (("loose", ()), ("bound", ())))
        for wish in drawn_wishes(441, 80):
            self.assertTrue(tuples_only(wish.things()))

    def test_equal_wishes(self):
        wish = LandWish(ROW, [1, 2], NOTHING, bars=["double", "needed"])
        self.assertEqual(wish, LandWish(ROW, (2, 1), NOTHING, bars=("needed", "double")))
        for other in (LandWish(VEE, [1, 2], NOTHING, bars=["double", "needed"]), LandWish(ROW, [1], NOTHING, bars=wish.bars),
                      LandWish(ROW, [1, 2], bars=wish.bars), LandWish(ROW, [1, 2], NOTHING, bars=["double"]),
                      LandWish(ROW, [1, 2], NOTHING), Wish(NOTHING), EveryLandWish(["far"], NOTHING), None, wish.things()):
            self.assertNotEqual(wish, other)
            self.assertNotEqual(other, wish)
        sorts = EveryLandWish(["far", "loose"], NOTHING)
        self.assertEqual(sorts, EveryLandWish(("loose", "far"), NOTHING))
        for other in (EveryLandWish(["far"], NOTHING), EveryLandWish(["far", "loose"]), Wish(NOTHING), ("far", "loose"), None):
            self.assertNotEqual(sorts, other)
            self.assertNotEqual(other, sorts)
        self.assertEqual(Wish(NOTHING), Wish(NOTHING))
        for other in (Wish(), NOTHING, None):
            self.assertNotEqual(Wish(NOTHING), other)

    def test_later_changes_of_what_was_passed(self):
        cells, bars, sorts = [2, 1], ["needed", "double"], ["bound", "far"]
        wish, other = LandWish(ROW, cells, bars=bars), EveryLandWish(sorts)
        self.assertEqual((cells, bars, sorts), ([2, 1], ["needed", "double"], ["bound", "far"]))
        for passed in (cells, bars, sorts):
            passed.clear()
        self.assertEqual((wish.cells, wish.bars, other.sorts), ((1, 2), ("double", "needed"), ("far", "bound")))


class WrongWishes(unittest.TestCase):

    def fault(self, land=ROW, cells=(1,), counted=None, bars=()):
        return caught(lambda: LandWish(land, cells, counted, bars=bars))

    def test_land_wishes_in_order(self):
        for thing in (None, True, 3, "row", (3, (), ()), KIND):
            self.assertEqual(self.fault(land=thing, cells=None, counted=7, bars=None), ("BadWish", "land"))
        for thing in (*NO_SEQUENCES, [3], [-1], [True], [1, 1], [None], ["1"], [(1,)]):
            self.assertEqual(self.fault(cells=thing, counted=7, bars=None), ("BadWish", "cells"))
        for thing in NO_COUNTED:
            self.assertEqual(self.fault(cells=(), counted=thing, bars=None), ("BadWish", "counted"))
            self.assertEqual(self.fault(counted=thing), ("BadWish", "counted"))
        for thing in (*NO_SEQUENCES, ["shut"], ["double", "double"], ["double", None], [True], ["double", "needed", "double"],
                      "double", ["Double"], [["double"]], {"double": 1}):
            for cells in ((), (1,)):
                self.assertEqual(self.fault(cells=cells, bars=thing), ("BadWish", "bars"))
                self.assertEqual(self.fault(RING, cells=cells, bars=thing), ("BadWish", "bars"))
        for land in (ROW, RING, HOUSE):
            self.assertEqual(self.fault(land, cells=[]), ("BadWish", "empty"))
        for land in (RING, FORK, CHAIN):
            for bars in (["double"], ["needed", "double"]):
                self.assertEqual(self.fault(land, bars=bars), ("BadWish", "wide"))
                self.assertEqual(self.fault(land, cells=(), bars=bars), ("BadWish", "wide"))
            self.assertIsNone(self.fault(land, cells=(), bars=["needed"]))

    def test_every_land_wishes_in_order(self):
        for thing in (*NO_SEQUENCES, [], (), ["road"], ["far", "far"], ["far", None], "far", [True], [["far"]], ["Far"]):
            self.assertEqual(caught(lambda: EveryLandWish(thing)), ("BadWish", "sorts"))
            self.assertEqual(caught(lambda: EveryLandWish(thing, 7)), ("BadWish", "sorts"))
        for thing in NO_COUNTED:
            self.assertEqual(caught(lambda: EveryLandWish(["far"], thing)), ("BadWish", "counted"))
            self.assertEqual(caught(lambda: Wish(thing)), ("BadWish", "counted"))


class Judging(unittest.TestCase):

    def keeps(self, wish, custom, thing):
        """Whether the custom keeps the thing, as parts 5, 6 and 7 tell."""
        word, cells = thing
        if word == "shut":
            return cells[0] not in shuttable(wish.land, custom, wish.counted)
        if word == "double":
            return isinstance(meet(wish.land, custom, *cells, "double", wish.counted), NeverMet)
        if word == "needed":
            return not [view for view in view_table(wish.land, custom, cells[0], wish.counted).views if view.needed]
        every = on_all_lands(custom, wish.counted)
        return {"far": every.far, "loose": every.loose, "bound": every.bound}[word] is None

    def check_kept(self, wish, custom, thing, paper):
        word, cells = thing
        if word == "shut":
            self.assertIsInstance(paper, Never)
            self.assertEqual(paper.table, view_table(wish.land, custom, cells[0], wish.counted))
        elif word == "double":
            self.assertIsInstance(paper, NeverMet)
            self.assertEqual((paper.question, paper.told.cells), ("double", cells))
            self.assertEqual(paper.told, meet(wish.land, custom, *cells, "double", wish.counted).told)
        elif word == "needed":
            self.assertIsInstance(paper, Table)
            self.assertEqual(paper, view_table(wish.land, custom, cells[0], wish.counted))
        else:
            self.assertIsInstance(paper, EveryLand)
            every = on_all_lands(custom, wish.counted)
            self.assertEqual((paper, paper.far, paper.loose, paper.bound), (every, every.far, every.loose, every.bound))

    def check_broken(self, wish, custom, thing, paper):
        word, cells = thing
        if word == "shut":
            self.assertIsInstance(paper, Shut)
            told = verdict_of(wish.land, custom, cells[0], wish.counted)
            self.assertEqual((paper.cell, paper.steps), (cells[0], told.steps))
            self.assertTrue(is_played(paper.history, wish.land, custom, wish.counted))
            self.assertFalse(paper.history.state.is_open(cells[0]))
        elif word == "double":
            self.assertIsInstance(paper, Met)
            self.assertEqual((paper.question, paper.steps),
                             ("double", meet(wish.land, custom, *cells, "double", wish.counted).steps))
            self.assertTrue(is_played(paper.history, wish.land, custom, wish.counted))
            self.assertTrue(joint_view(paper.history.state, *cells).doubled)
        elif word == "needed":
            self.assertIsInstance(paper, Needed)
            needed = [b for view in view_table(wish.land, custom, cells[0], wish.counted).views for b in view.needed]
            self.assertEqual(paper.other, min(needed))
            self.assertTrue(is_played(paper.history, wish.land, custom, wish.counted))
            self.assertEqual(paper.history.state.standing(cells[0], paper.other), "needed")
        else:
            self.assertIsInstance(paper, History)
            self.assertTrue(is_played(paper, probe_land(word), custom, wish.counted))
            every = on_all_lands(custom, wish.counted)
            self.assertEqual(len(paper), {"far": every.far, "loose": every.loose, "bound": every.bound}[word])
            self.assertFalse(paper.state.is_open(0))

    def check(self, wish, custom):
        told = judge_wish(wish, custom)
        self.assertEqual((told.wish, told.custom), (wish, custom))
        for k, thing in enumerate(wish.things()):
            if not self.keeps(wish, custom, thing):
                self.assertIsInstance(told, Broken)
                self.assertEqual(told.thing, thing)
                self.check_broken(wish, custom, thing, told.paper)
                break
            if isinstance(told, Kept):
                self.check_kept(wish, custom, thing, told.papers[k])
        else:
            self.assertIsInstance(told, Kept)
            self.assertEqual(len(told.papers), len(wish.things()))
            self.assertTrue(tuples_only(told.papers))
        self.assertIsNone(judgment_fault(wish, custom, told))
        return (told.thing[0] if isinstance(told, Broken) else "kept",) + tuple(sorted({word for word, _ in wish.things()}))

    def test_drawn_wishes(self):
        source = random.Random(442)
        found = {self.check(wish, custom_at(source.randrange(192))) for wish in drawn_wishes(443, 500)}
        self.assertEqual({row[0] for row in found}, {"kept", "shut", "double", "needed", *SORTS})
        kept = [row[1:] for row in found if row[0] == "kept"]
        self.assertEqual({word for row in kept for word in row}, {"shut", "double", "needed", *SORTS})

    def test_each_custom_with_each_kind_of_wish(self):
        for k, custom in enumerate(customs()):
            counted = list(counteds())[k % 8]
            self.check(LandWish((PAIR, ROW, VEE)[k % 3], [0, 1], counted), custom)
            self.check(LandWish((PAIR, ROW, VEE)[k % 3], [], counted, bars=["needed"]), custom)
            self.check(LandWish((PAIR, ROW, VEE)[k % 3], [], counted, bars=["double"]), custom)
            self.check(EveryLandWish(SORTS, counted), custom)

    def test_larger_lands(self):
        source = random.Random(444)
        for land in (RING, FORK, HOUSE):
            for _ in range(4):
                self.check(LandWish(land, range_of(source, land), bars=["needed"][:source.randrange(2)]),
                           custom_at(source.randrange(192)))

    def test_by_hand(self):
        told = judge_wish(LandWish(ROW, [0, 1, 2], NOTHING, bars=["double", "needed"]), KIND)
        self.assertEqual((told.thing, told.paper.steps), (("double", (0, 1)), 2))
        told = judge_wish(LandWish(ROW, [0, 1, 2], NOTHING, bars=["needed"]), KIND)
        self.assertEqual([type(paper) for paper in told.papers], [Never, Never, Never, Table, Table, Table])
        told = judge_wish(LandWish(ROW, [], NOTHING, bars=["needed"]), NEED)
        self.assertEqual((told.thing, told.paper.other), (("needed", (1,)), 0))
        told = judge_wish(LandWish(PAIR, [], NOTHING, bars=["double"]), KIND)
        self.assertEqual([paper.told.cells for paper in told.papers], [(0, 1)])
        told = judge_wish(EveryLandWish(["bound", "far"]), KIND.changed("kept", "beside"))
        self.assertEqual((told.thing, len(told.paper)), (("far", ()), 1))
        self.assertIsInstance(judge_wish(EveryLandWish(["bound", "loose"]), KIND.changed("kept", "beside")), Kept)

    def test_a_plain_wish(self):
        told = judge_wish(Wish(NOTHING), KIND)
        self.assertIsInstance(told, Kept)
        self.assertEqual((told.wish, told.custom, told.papers), (Wish(NOTHING), KIND, ()))

    def test_burdens_on_all_lands(self):
        for custom in customs():
            for counted in (Counted(), NOTHING):
                if counted.grants or not {"need", "beside"} & {custom.sold, custom.kept}:
                    told = judge_wish(LandWish(ROW, [], counted, bars=["double"]), custom)
                    self.assertIs(isinstance(told, Broken), burden_on_all_lands(custom, counted))

    def test_counted_histories_break_no_kept_wish(self):
        source = random.Random(445)
        for wish in drawn_wishes(446, 160):
            custom = custom_at(source.randrange(192))
            if isinstance(wish, LandWish) and isinstance(judge_wish(wish, custom), Kept):
                history = History(wish.land, custom, some_deeds(source, wish.land, custom, 6))
                for k, deed in enumerate(history):
                    if not is_counted(wish.counted, history.state_at(k), deed):
                        break
                    state = history.state_at(k + 1)
                    self.assertFalse(set(state.shut) & set(wish.cells))
                    if "needed" in wish.bars:
                        self.assertNotIn("needed", [word for row in state.standings for word in row])

    def test_results_keep_what_they_are_passed(self):
        self.assertEqual(vars(Kept(1, 2, 3)), {"wish": 1, "custom": 2, "papers": 3})
        self.assertEqual(vars(Broken(1, 2, 3, 4)), {"wish": 1, "custom": 2, "thing": 3, "paper": 4})
        self.assertEqual(vars(Needed(1, 2)), {"other": 1, "history": 2})


def range_of(source, land):
    """A drawn lot of at least one cell of the land."""
    return source.sample(range(land.cells), source.randint(1, land.cells))
