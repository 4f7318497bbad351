"""[7.1] to [7.4]: what cells can come to at once, for all lands."""

import random
import unittest

from helpers import (CHAIN, FORK, HOUSE, LANDS, NO_NUMBERS, NO_SEQUENCES, PAIR, RING, ROW, VEE, caught, is_played,
                     some_counted, some_deeds, subsets, tuples_only)
from landways.burdens import Met, doubly_burdened, meet
from landways.counted import Counted, counteds
from landways.couplewise import followed
from landways.customs import Custom, customs
from landways.everyland import on_all_lands, shutting
from landways.histories import History
from landways.joint import joint_view
from landways.jointtables import joint_table
from landways.lands import Land
from landways.landforms import all_lands
from landways.tables import view_table, ways_of
from landways.together import (all_crossed, burden_history, burden_on_all_lands, crossed_on_all_lands, crossed_states,
                               shut_together)
from landways.twocells import pair_states
from statewalk import came_by, state_graph
from test_everyland import number_told_again

SIDE = Custom("stay", "die", "all", "none", "never")
KIND = Custom("stay", "die", "all", "all", "never")
NOTHING = Counted(False, False, False)
EVERYTHING = Counted(True, True, True)
STAR = Land(5, [(0, 1), (0, 2), (0, 3), (0, 4)], [0, 4])
WIDE = LANDS + (VEE, STAR)


def off_the_road(land):
    """All lots of at least one cell off the road."""
    return subsets(set(range(land.cells)) - set(land.roads))[1:]


class ShutTogether(unittest.TestCase):

    def check(self, land, custom, lot, counted):
        number = number_told_again(custom, counted, "bound")
        told = shut_together(land, custom, lot, counted)
        if number is None:
            self.assertIsNone(told)
            return
        self.assertIsInstance(told, History)
        self.assertTrue(is_played(told, land, custom, counted))
        self.assertEqual(len(told), number)
        self.assertLessEqual(set(lot), set(told.state.shut))

    def test_all_customs_and_all_sorts_of_deeds_on_drawn_lands(self):
        source = random.Random(301)
        for custom in customs():
            if not custom.uses("beside"):
                for counted in counteds():
                    land = source.choice(WIDE)
                    lots = off_the_road(land)
                    for lot in (source.choice(lots), lots[-1], lots[0]):
                        self.check(land, custom, source.sample(lot, len(lot)), counted)

    def test_all_lots_of_each_small_land(self):
        for land in [*all_lands(2), *all_lands(3), FORK, RING]:
            for custom in list(customs())[::5]:
                if not custom.uses("beside"):
                    for lot in off_the_road(land):
                        for counted in (EVERYTHING, Counted(), Counted(False, True)):
                            self.check(land, custom, lot, counted)

    def test_as_few_deeds_as_for_one_cell(self):
        for custom in customs():
            if not custom.uses("beside"):
                for counted in counteds():
                    one = shutting(HOUSE, custom, 2, counted)
                    told = shut_together(HOUSE, custom, [3, 1, 0], counted)
                    self.assertEqual(one is None, told is None)
                    if told is not None:
                        self.assertEqual(len(told), len(one))
                        self.assertEqual(len(told), on_all_lands(custom, counted).bound)

    def test_joint_tables(self):
        land = Land(3, [(0, 1), (1, 2), (0, 2)], [0])
        for custom in list(customs())[::3]:
            if not custom.uses("beside"):
                for counted in counteds():
                    table = joint_table(land, custom, 1, 2, counted)
                    near = [row[1] for row in table.rows if row[0].both_shut]
                    told = shut_together(land, custom, [1, 2], counted)
                    self.assertEqual(told is None, not near)
                    if near:
                        self.assertLessEqual(min(near), len(told))
                        self.assertLessEqual(table.distance(joint_view(told.state, 1, 2)), len(told))

    def test_the_example(self):
        told = shut_together(ROW, SIDE, [1, 2], NOTHING)
        self.assertEqual(len(told), 1)
        self.assertEqual(told.state.lots, ((0,), (1, 2)))
        self.assertEqual(told.state.shut, (1, 2))

    def test_a_lot_of_one_cell_and_of_all_off_the_road(self):
        self.assertIn(2, shut_together(CHAIN, SIDE, (2,)).state.shut)
        self.assertEqual(shut_together(CHAIN, SIDE, [4, 2, 3, 1]).state.shut, (1, 2, 3, 4))
        self.assertIsNone(shut_together(CHAIN, KIND, [1, 2, 3, 4]))
        self.assertEqual(shut_together(CHAIN, KIND, [1, 2, 3, 4], Counted(giving_up=True)).state.shut, (1, 2, 3, 4))

    def test_counted_left_out_none_by_place_and_by_name(self):
        dying = KIND.changed("untold", "die")
        for told in (shut_together(ROW, dying, [2]), shut_together(ROW, dying, [2], None),
                     shut_together(land=ROW, custom=dying, cells=[2], counted=None)):
            self.assertEqual(len(told), 2)
        self.assertIsNone(shut_together(ROW, dying, [2], counted=Counted(untold=False)))

    def test_what_is_wrong(self):
        for custom in (SIDE, SIDE.changed("sold", "beside")):
            for thing in ([], (), [0], [1, 0], [1, 1], [-1], [3], [True], [1, None], [[1]], ["1"], *NO_SEQUENCES):
                self.assertEqual(caught(lambda: shut_together(ROW, custom, thing)), ("BadCells", "cells"))
        for sold, kept, word in [("beside", "beside", "sold"), ("beside", "all", "sold"), ("none", "beside", "kept")]:
            one = Custom("stay", "die", sold, kept, "never")
            self.assertEqual(caught(lambda: shut_together(ROW, one, [1])), ("NeedsLand", word))

    def test_nothing_is_changed(self):
        cells = [2, 1]
        told = shut_together(ROW, SIDE, cells)
        self.assertEqual(cells, [2, 1])
        cells.append(7)
        self.assertTrue(tuples_only(told.deeds))


def burdens_hold(custom, counted):
    """What [7.2] says: None where it hangs on the land, else whether all burdens can be borne at once."""
    if not counted.grants and {"need", "beside"} & {custom.sold, custom.kept}:
        return None
    return counted.grants or "all" in (custom.sold, custom.kept)


def refusal(custom):
    """The NeedsLand of a custom that hangs on the land."""
    return ("NeedsLand", "sold" if custom.sold in ("need", "beside") else "kept")


class Burdens(unittest.TestCase):

    def check(self, land, custom, cell, counted):
        held = burdens_hold(custom, counted)
        if held is None:
            self.assertEqual(caught(lambda: burden_on_all_lands(custom, counted)), refusal(custom))
            self.assertEqual(caught(lambda: burden_history(land, custom, cell, counted)), refusal(custom))
            return
        self.assertIs(burden_on_all_lands(custom, counted), held)
        told = burden_history(land, custom, cell, counted)
        if not held:
            self.assertIsNone(told)
            return
        self.assertTrue(is_played(told, land, custom, counted))
        self.assertEqual(len(set(told.state.hands)), land.cells)
        self.assertEqual([told.state.standing(b, cell) for b in land.others(cell)], ["awake"] * (land.cells - 1))

    def test_all_customs_and_all_sorts_of_deeds(self):
        source = random.Random(302)
        for custom in customs():
            for counted in counteds():
                land = source.choice(WIDE)
                self.check(land, custom, source.randrange(land.cells), counted)

    def test_each_cell(self):
        for land in (PAIR, ROW, FORK, HOUSE):
            for custom in (SIDE, KIND, Custom("die", "die", "none", "all", "free"),
                           Custom("die", "sleep", "need", "beside", "free"), Custom("die", "die", "none", "none", "free")):
                for cell in range(land.cells):
                    for counted in (NOTHING, Counted()):
                        self.check(land, custom, cell, counted)

    def test_where_it_does_not_hold_no_right_is_ever_awake(self):
        for custom in customs():
            for counted in counteds():
                if burdens_hold(custom, counted) is False:
                    for other in (0, 1):
                        self.assertNotIn("awake", ways_of(view_table(ROW, custom, 2, counted), other))

    def test_double_burdens_of_joint_tables(self):
        for custom in list(customs())[::3]:
            for counted in (NOTHING, Counted(), Counted(False, True, True)):
                held = burdens_hold(custom, counted)
                if held is not None:
                    self.assertEqual(doubly_burdened(VEE, custom, counted), (0, 1, 2) if held else ())

    def test_counted_left_out_none_by_place_and_by_name(self):
        bare = Custom("stay", "die", "need", "none", "never")
        self.assertIs(burden_on_all_lands(bare), True)
        self.assertIs(burden_on_all_lands(bare, None), True)
        self.assertIs(burden_on_all_lands(custom=bare, counted=Counted()), True)
        for told in (burden_history(ROW, bare, 0), burden_history(ROW, bare, 0, None),
                     burden_history(land=ROW, custom=bare, cell=0, counted=None)):
            self.assertEqual([told.state.standing(b, 0) for b in (1, 2)], ["awake", "awake"])

    def test_what_is_wrong(self):
        hanging = Custom("stay", "die", "beside", "need", "never")
        for thing in (-1, 3, *NO_NUMBERS):
            self.assertEqual(caught(lambda: burden_history(ROW, hanging, thing, NOTHING)), ("BadCell", thing))
            self.assertEqual(caught(lambda: burden_history(ROW, KIND, thing)), ("BadCell", thing))
        for sold, kept, word in [("beside", "need", "sold"), ("need", "all", "sold"), ("all", "need", "kept"),
                                 ("none", "beside", "kept"), ("need", "beside", "sold")]:
            one = Custom("stay", "die", sold, kept, "never")
            for ask in (lambda: burden_on_all_lands(one, NOTHING), lambda: burden_history(ROW, one, 0, NOTHING),
                        lambda: crossed_on_all_lands(one, NOTHING), lambda: all_crossed(ROW, one, NOTHING)):
                self.assertEqual(caught(ask), ("NeedsLand", word))


def crossing_holds(custom, counted):
    """What [7.3] says, under the condition of [7.2]."""
    if burdens_hold(custom, counted) is None:
        return None
    sides = [custom.sold, custom.kept]
    return counted.grants or sides == ["all", "all"] or ("all" in sides and custom.joined == "sleep")


class Crossed(unittest.TestCase):

    def test_all_customs_and_all_sorts_of_deeds(self):
        source = random.Random(303)
        for custom in customs():
            for counted in counteds():
                land = source.choice(WIDE)
                held = crossing_holds(custom, counted)
                if held is None:
                    self.assertEqual(caught(lambda: crossed_on_all_lands(custom, counted)), refusal(custom))
                    self.assertEqual(caught(lambda: all_crossed(land, custom, counted)), refusal(custom))
                    continue
                self.assertIs(crossed_on_all_lands(custom, counted), held)
                told = all_crossed(land, custom, counted)
                self.assertEqual(told is not None, held)
                if held:
                    self.check(told, land, custom, counted)

    def check(self, told, land, custom, counted):
        self.assertTrue(is_played(told, land, custom, counted))
        self.assertEqual(len(set(told.state.hands)), land.cells)
        self.assertEqual({told.state.standing(a, b) for a, b in land.couples}, {"awake"})

    def test_each_way_to_cross(self):
        for land in WIDE:
            for custom, counted in [(KIND, NOTHING), (SIDE.changed("joined", "sleep"), NOTHING),
                                    (Custom("die", "sleep", "none", "all", "free"), NOTHING),
                                    (Custom("die", "die", "need", "beside", "free"), Counted(untold=False)),
                                    (Custom("needed stay", "die", "none", "need", "never"), Counted())]:
                self.check(all_crossed(land, custom, counted), land, custom, counted)
        self.assertIsNone(all_crossed(ROW, SIDE, NOTHING))

    def test_crossed_is_met_exactly_where_it_holds(self):
        for custom in list(customs())[::2]:
            for counted in (NOTHING, Counted(False), Counted(), Counted(False, False, True)):
                held = crossing_holds(custom, counted)
                if held is not None:
                    for land, one, other in ((PAIR, 0, 1), (ROW, 2, 0), (VEE, 1, 2)):
                        self.assertIs(isinstance(meet(land, custom, one, other, "crossed", counted), Met), held)

    def test_counted_left_out_none_by_place_and_by_name(self):
        self.assertIs(crossed_on_all_lands(SIDE), True)
        self.assertIs(crossed_on_all_lands(SIDE, None), True)
        self.assertIs(crossed_on_all_lands(custom=SIDE, counted=NOTHING), False)
        for told in (all_crossed(ROW, SIDE), all_crossed(ROW, SIDE, None),
                     all_crossed(land=ROW, custom=SIDE, counted=None)):
            self.assertEqual(told.state.standing(0, 2), "awake")


class CrossedStates(unittest.TestCase):

    def test_the_example(self):
        self.assertEqual(crossed_states(SIDE, NOTHING),
                         ((True, "none", "none"), (False, "none", "awake"), (False, "awake", "none")))

    def test_all_eight_in_order(self):
        words = ("none", "asleep")
        expected = [(True, one, other) for one in words for other in words]
        expected += [(False, one, other) for one in ("none", "awake") for other in ("none", "awake")]
        self.assertEqual(crossed_states(Custom("die", "sleep", "none", "none", "free")), tuple(expected))

    def plain_customs(self):
        return [custom for custom in customs() if not custom.uses("need") and not custom.uses("beside")]

    def test_against_all_states(self):
        order = ("none", "awake", "asleep")
        lands = list(all_lands(3))
        for k, custom in enumerate(self.plain_customs()):
            for land in (PAIR, lands[k % 6]) if k % 4 == 0 else (PAIR,):
                graph = state_graph(custom, land)
                for counted in counteds():
                    told = crossed_states(custom, counted)
                    self.assertEqual(len(set(told)), len(told))
                    self.assertEqual(list(told), sorted(told, key=lambda row: (not row[0], order.index(row[1]),
                                                                              order.index(row[2]))))
                    came = came_by(graph, counted)
                    for a, b in land.couples:
                        self.assertEqual(set(told), {(hands[a] == hands[b], rows[a][b], rows[b][a]) for hands, rows in came})

    def test_joint_tables(self):
        for custom in self.plain_customs()[::2]:
            for counted in counteds():
                table = joint_table(ROW, custom, 2, 0, counted)
                seen = {(joint.alike, joint.first.standings[0], joint.second.standings[2]) for joint in table}
                self.assertEqual(set(crossed_states(custom, counted)), seen)

    def test_each_of_the_two_goes_through_the_pairs_that_can_come(self):
        for custom in self.plain_customs():
            for counted in counteds():
                told = crossed_states(custom, counted)
                for place in (1, 2):
                    pairs = {"own" if row[0] and row[place] == "none" else row[place] for row in told}
                    self.assertEqual(pairs, set(pair_states(custom, counted)))
                self.assertEqual({(alike, other, word) for alike, word, other in told}, set(told))

    def test_drawn_histories(self):
        source = random.Random(304)
        for custom in self.plain_customs():
            land = source.choice(WIDE)
            history = History(land, custom, some_deeds(source, land, custom, 8))
            states = crossed_states(custom, EVERYTHING)
            for a, b in land.couples:
                for (alike, word), (_, other) in zip(followed(history, a, b), followed(history, b, a)):
                    self.assertIn((alike, word, other), states)

    def test_counted_left_out_none_and_by_name(self):
        for told in (crossed_states(SIDE), crossed_states(SIDE, None), crossed_states(custom=SIDE, counted=None)):
            self.assertEqual(told, crossed_states(SIDE, Counted()))
        self.assertNotEqual(crossed_states(SIDE), crossed_states(SIDE, NOTHING))
        self.assertTrue(tuples_only(crossed_states(SIDE)))

    def test_what_is_wrong(self):
        source = random.Random(305)
        for custom in customs():
            if custom.uses("need") or custom.uses("beside"):
                for counted in (Counted(), NOTHING, some_counted(source)):
                    self.assertEqual(caught(lambda: crossed_states(custom, counted)), refusal(custom))
