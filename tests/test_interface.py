"""The interface: names, arguments, where things are defined, and that generators are such."""

import importlib
import inspect
import unittest

from helpers import ROW
from landways.bench import Bench
from landways.changes import Change, Pool
from landways.customs import custom_at
from landways.everycustom import compare_everywhere
from landways.everyland import on_all_lands
from landways.histories import History
from landways.joint import start_joint
from landways.jointtables import joint_table
from landways.smudges import Smudged
from landways.states import start_state
from landways.steps import Give, Leave
from landways.tables import view_table
from landways.twinruns import TwinRun
from landways.twintables import twin_table
from landways.twinviews import twin_start
from landways.views import start_view
from landways.wishes import EveryLandWish, LandWish, Wish

FUNCTIONS = {
    "lands": "is_whole(thing, low, high); are_cells(many, thing, least); is_cell(land, thing); "
             "is_lot(land, thing, least); is_couple(land, thing)",
    "lots": "all_lots(cells)",
    "reaching": "reached(land, cell, passing); is_open(land, cell, passing); opens(land, cell, passing); "
                "open_way(land, cell, passing); least_lots(land, cell, passing, among); "
                "least_lot(land, cell, passing, among)",
    "likeness": "all_orders(many); renumbered(land, order); least_form(land); led_lot(order, lot); "
                "led_couple(order, couple); likenesses(one, other)",
    "landforms": "all_lands(cells); number_of_lands(cells)",
    "landtext": "land_text(land); parse_land(text)",
    "customs": "words(clause); custom_at(number); customs(); differences(one, other)",
    "counted": "counteds()",
    "customtext": "custom_text(custom); parse_custom(text)",
    "states": "start_state(land)",
    "deeds": "shape_fault(land, deed); deed_fault(state, deed); shaped(deed); moved_cells(state, deed); "
             "hands_after(state, deed); parted_couples(state, deed); joined_couples(state, deed); "
             "untold_couples(state, deed); is_counted(counted, state, deed)",
    "playing": "stages(custom, state, deed); after(custom, state, deed); settled_state(custom, state); "
               "is_settled_state(custom, state)",
    "histories": "",
    "reasons": "ledger(history); reason(history, a, b); shuttings(history)",
    "couplewise": "followed(history, a, b)",
    "moved": "carried_deed(order, deed); carried_state(order, state); carried_history(order, history); "
             "rehanded(history, pairs); plain_hands(history); trimmed(history)",
    "deedtext": "deed_text(deed); history_text(history); parse_deed(land, text); parse_history(text)",
    "views": "view_at(land, cell, number); start_view(land, cell); view_of(state, cell); all_views(land, cell)",
    "viewtext": "view_text(view); parse_view(land, text)",
    "steps": "step_fault(view, step)",
    "seeing": "step_changes(custom, view, step); see_step(custom, view, step); settled_view(custom, view); "
              "is_settled_view(custom, view); step_of(state, cell, deed)",
    "listing": "mortal_rights(custom, view); plain_step(custom, view, step); plain_steps(custom, view, counted=None); "
               "number_of_steps(custom, view, counted=None)",
    "gathering": "gather_deeds(state, cells); bring_step(state, cell, step); stepped_history(history, cell, steps)",
    "tables": "view_table(land, custom, cell, counted=None); table_behind(history, cell, counted=None); "
              "ways_of(table, other)",
    "walks": "first_leaving(table); all_dangers(table); danger_of(table, view); safe_views(table); lost_views(table); "
             "view_walk(history, cell); retold(history, cell, counted=None)",
    "verdicts": "verdict_behind(history, cell, counted=None); verdict_of(land, custom, cell, counted=None); "
                "is_never(land, custom, cell, counted=None); anybody_behind(history, counted=None); "
                "anybody(land, custom, counted=None); shuttable(land, custom, counted=None)",
    "tablejudge": "table_fault(table); verdict_fault(history, cell, counted, told); anybody_fault(history, counted, told)",
    "everyland": "sort_of(land, cell); probe_land(word); on_all_lands(custom, counted=None); "
                 "fewest_deeds(land, custom, cell, counted=None); shutting(land, custom, cell, counted=None)",
    "leading": "lead_deed(land, cell, deed); lead_over(history, land, cell)",
    "twocells": "pair_of(state, a, b); pair_after(custom, pair, event, *, near=True); "
                "pair_states(custom, counted=None, *, near=True); events_to(custom, counted, pair, *, near=True); "
                "play_events(custom, events)",
    "safety": "is_safe_pair(custom, counted, pair, *, near=True); safe_cells(history, cell, counted=None); "
              "can_be_shut(history, cell, counted=None); stripping(history, cell, counted=None); "
              "safe_couples(history, counted=None)",
    "joint": "joint_view(state, first, second); start_joint(land, first, second); all_joint_views(land, first, second)",
    "jointsteps": "joint_step_of(custom, state, first, second, deed); joint_steps(custom, joint, counted=None); "
                  "joint_seen(custom, joint, pair); joint_brought(history, first, second, pair)",
    "jointtables": "joint_table(land, custom, first, second, counted=None); "
                   "joint_table_behind(history, first, second, counted=None); joint_table_fault(told)",
    "burdens": "meets(joint, question); meet(land, custom, first, second, question, counted=None); "
               "meet_behind(history, first, second, question, counted=None); "
               "double_burden(land, custom, cell, counted=None); doubly_burdened(land, custom, counted=None)",
    "together": "shut_together(land, custom, cells, counted=None); burden_history(land, custom, cell, counted=None); "
                "all_crossed(land, custom, counted=None); burden_on_all_lands(custom, counted=None); "
                "crossed_on_all_lands(custom, counted=None); crossed_states(custom, counted=None)",
    "twinviews": "twin_start(land, cell); twin_seen(one, other, twin, step); twin_steps(one, other, twin, counted)",
    "twinruns": "",
    "twintables": "twin_table(land, one, other, cell, counted=None); twin_leaving(table)",
    "comparing": "compare_customs(land, one, other, counted=None, *, measure='standing'); "
                 "are_alike(land, one, other, counted=None, *, measure='standing'); "
                 "alike_fault(land, one, other, counted, measure, told)",
    "kinder": "compare_kindness(land, one, other, counted=None); is_kinder(land, one, other, counted=None)",
    "idle": "alike_words(land, custom, clause, counted=None, *, measure='standing'); "
            "idle_clauses(land, custom, counted=None, *, measure='standing')",
    "everycustom": "trial_lands(measure); compare_everywhere(one, other, counted=None, *, measure='standing'); "
                   "are_alike_everywhere(one, other, counted=None, *, measure='standing'); "
                   "alike_customs(custom, counted=None, *, measure='standing'); "
                   "custom_classes(counted=None, *, measure='standing'); "
                   "idle_everywhere(custom, counted=None, *, measure='standing'); "
                   "kinder_everywhere(one, other, counted=None)",
    "smudges": "lawful_fillings(smudged); number_of_fillings(smudged); filled_history(smudged, findings)",
    "tidings": "told_standings(smudged, a, b, many=None); sure_standing(smudged, a, b, many=None); "
               "openness(smudged, cell, many=None); parting_findings(smudged, a, b, many=None); "
               "unsure_couples(smudged, many=None); unsure_cells(smudged, many=None)",
    "findings": "with_finding(smudged, place, finding); is_idle(smudged, place); telling_findings(smudged, place); "
                "settled_by(smudged, place); least_findings(smudged); prospect(smudged, cell, counted=None); "
                "sure_safe_cells(smudged, cell, counted=None)",
    "changes": "change_text(change); every_change(custom); is_lesser(one, other)",
    "wishes": "judge_wish(wish, custom)",
    "mends": "good_choices(custom, pool, wish); least_mends(custom, pool, wish); spoiling_changes(custom, pool, wish); "
             "nearest_customs(custom, wish); saving_choices(history, pool, cell)",
    "mendjudge": "judgment_fault(wish, custom, told); mends_fault(custom, pool, wish, mends)",
    "keeping": "grantable_cells(state, cell); with_grants(history, cell, lot); "
               "keeping_grants(history, cell, counted=None); spoiling_grants(history, cell, counted=None); "
               "least_keeping(history, cell, counted=None)",
    "keepjudge": "keeping_fault(history, cell, counted, keeping)",
    "bench": "",
}
CONSTANTS = {
    "lands": {"MOST_CELLS": 5, "MOST_HAND": 10 ** 30}, "histories": {"MOST_DEEDS": 10000},
    "customs": {"CLAUSES": ("untold", "joined", "sold", "kept", "ends")},
    "twinviews": {"MEASURES": ("standing", "passing", "open")}, "smudges": {"MOST_LOST": 4, "MOST_FILLINGS": 256},
    "tables": {"WAYS": ("own", "asleep", "none", "awake", "needed")},
    "twocells": {"PAIRS": ("own", "asleep", "none", "awake", "needed"),
                 "EVENTS": ("sold", "kept", "joined", "untold", "grant", "gives")},
    "jointtables": {"JOINT_CELLS": 3}, "burdens": {"QUESTIONS": ("both", "one", "crossed", "needs", "double")},
}
CLASSES = {
    ("lands", "Land"): "__init__(self, cells, neighbours, roads); is_neighbour(self, one, other); "
                       "is_road(self, cell); around(self, cell); others(self, cell); __eq__(self, other)",
    ("customs", "Custom"): "__init__(self, untold, joined, sold, kept, ends); word(self, clause); "
                           "changed(self, clause, word); uses(self, word); __iter__(self); __eq__(self, other)",
    ("counted", "Counted"): "__init__(self, grants=True, untold=True, giving_up=False); is_within(self, other); "
                            "__eq__(self, other)",
    ("states", "State"): "__init__(self, land, hands, standings); hand(self, a); standing(self, a, b); "
                         "is_own(self, a, b); passes(self, a, b); is_open(self, a); own_cells(self, a); "
                         "passing(self, a); __eq__(self, other)",
    ("histories", "History"): "__init__(self, land, custom, deeds=()); states(self); state_at(self, many); "
                              "until(self, many); then(self, *deeds); first_shut(self, cell); "
                              "is_counted(self, counted); __len__(self); __iter__(self); __eq__(self, other)",
    ("views", "View"): "__init__(self, land, cell, own, standings); passing(self); is_open(self); way_of(self, b); "
                       "__eq__(self, other)",
    ("steps", "Step"): "own_behind(self, view); __eq__(self, other)",
    ("steps", "Leave"): "__init__(self, cells, untold=()); own_behind(self, view); __eq__(self, other)",
    ("steps", "Come"): "__init__(self, cells); own_behind(self, view); __eq__(self, other)",
    ("steps", "Go"): "__init__(self, cells, held=()); own_behind(self, view); __eq__(self, other)",
    ("steps", "Grant"): "__init__(self, cells); own_behind(self, view); __eq__(self, other)",
    ("steps", "Give"): "__init__(self, cells); own_behind(self, view); __eq__(self, other)",
    ("tables", "Table"): "__init__(self, past, cell, counted, rows); distance(self, view); way_to(self, view); "
                         "history_of(self, view); is_within(self, other); __len__(self); __iter__(self); "
                         "__contains__(self, view); __eq__(self, other)",
    ("verdicts", "Never"): "__init__(self, table)", ("verdicts", "Shut"): "__init__(self, cell, history, steps)",
    ("verdicts", "Nobody"): "__init__(self, tables)",
    ("everyland", "EveryLand"): "__init__(self, custom, counted, far, loose, bound); fewest(self, land, cell); "
                                "exposed(self, land); __eq__(self, other)",
    ("joint", "JointView"): "__init__(self, first, second); turned(self); __eq__(self, other)",
    ("jointtables", "JointTable"): "__init__(self, past, cells, counted, rows); distance(self, joint); "
                                   "history_of(self, joint); views_of(self, cell); __len__(self); __iter__(self); "
                                   "__contains__(self, joint); __eq__(self, other)",
    ("burdens", "NeverMet"): "__init__(self, question, told)",
    ("burdens", "Met"): "__init__(self, question, history, steps)",
    ("twinviews", "TwinView"): "__init__(self, one, other); differs(self, measure); turned(self); __eq__(self, other)",
    ("twinruns", "TwinRun"): "__init__(self, land, one, other, deeds=()); twins(self, cell); twin(self, cell); "
                             "differing(self, measure); differs_at(self, measure); until(self, many); "
                             "then(self, *deeds); turned(self); is_counted(self, counted); __len__(self); "
                             "__eq__(self, other)",
    ("twintables", "TwinTable"): "__init__(self, land, one, other, cell, counted, rows); distance(self, twin); "
                                 "run_of(self, twin); firsts(self); seconds(self); __len__(self); __iter__(self); "
                                 "__contains__(self, twin)",
    ("comparing", "Alike"): "__init__(self, tables)", ("comparing", "Unlike"): "__init__(self, run, cell)",
    ("kinder", "Kinder"): "__init__(self, tables)", ("kinder", "Unkind"): "__init__(self, run, cell, over)",
    ("everycustom", "OnAllLands"): "__init__(self, one, other, counted, measure)",
    ("smudges", "Smudged"): "__init__(self, land, custom, deeds, lost); __eq__(self, other)",
    ("changes", "Change"): "__init__(self, clause, word); made(self, custom); __eq__(self, other)",
    ("changes", "Pool"): "__init__(self, changes); lawful_choices(self); custom_by(self, custom, choice); __len__(self); "
                         "__iter__(self)",
    ("wishes", "Wish"): "__init__(self, counted=None); things(self); __eq__(self, other)",
    ("wishes", "LandWish"): "__init__(self, land, cells, counted=None, *, bars=()); things(self); __eq__(self, other)",
    ("wishes", "EveryLandWish"): "__init__(self, sorts, counted=None); things(self); __eq__(self, other)",
    ("wishes", "Kept"): "__init__(self, wish, custom, papers)",
    ("wishes", "Broken"): "__init__(self, wish, custom, thing, paper)",
    ("wishes", "Needed"): "__init__(self, other, history)",
    ("mends", "Mends"): "__init__(self, good, bad)", ("keeping", "Keeping"): "__init__(self, good, bad)",
    ("bench", "Bench"): "__init__(self, land, custom, deeds=()); make(self, *deeds); change(self, *changes); undo(self); "
                        "back_to(self, many); tried(self, deeds, question); __len__(self)",
}
PROPERTIES = {("lands", "Land"): ["couples"], ("states", "State"): ["shut", "lots"], ("histories", "History"): ["state"],
              ("tables", "Table"): ["views"], ("everyland", "EveryLand"): ["nowhere", "everywhere"],
              ("joint", "JointView"): ["alike", "beyond", "both_shut", "one_shut", "crossed", "needs", "doubled"],
              ("twinviews", "TwinView"): ["surplus"]}
GENERATORS = [("likeness", "likenesses"), ("landforms", "all_lands"), ("customs", "customs"), ("counted", "counteds"),
              ("playing", "stages"), ("reasons", "ledger"), ("reasons", "shuttings"), ("views", "all_views"),
              ("seeing", "step_changes"), ("listing", "plain_steps"), ("walks", "view_walk"),
              ("joint", "all_joint_views"), ("jointsteps", "joint_steps"), ("twinviews", "twin_steps"),
              ("everycustom", "custom_classes"), ("smudges", "lawful_fillings"), ("changes", "every_change")]
METHODS = [("histories", "History", "states"), ("twinruns", "TwinRun", "twins"), ("changes", "Pool", "lawful_choices")]


def module(name):
    return importlib.import_module("landways." + name)


def told(function):
    return function.__name__ + str(inspect.signature(function))


class Interface(unittest.TestCase):

    def test_functions(self):
        for name, listed in FUNCTIONS.items():
            for row in filter(None, listed.split("; ")):
                function = getattr(module(name), row.partition("(")[0])
                self.assertEqual(told(function), row)
                self.assertEqual(function.__module__, "landways." + name)

    def test_classes(self):
        for (name, title), listed in CLASSES.items():
            found = getattr(module(name), title)
            self.assertEqual(found.__module__, "landways." + name)
            for row in listed.split("; "):
                self.assertEqual(told(vars(found)[row.partition("(")[0]]), row)
            for word in PROPERTIES.get((name, title), []):
                self.assertIsInstance(vars(found)[word], property)

    def test_constants(self):
        for name, listed in CONSTANTS.items():
            for title, value in listed.items():
                self.assertEqual(getattr(module(name), title), value)

    def test_kinds_of_steps_are_under_step(self):
        steps = module("steps")
        for title in ("Leave", "Come", "Go", "Grant", "Give"):
            self.assertTrue(issubclass(getattr(steps, title), steps.Step))

    def test_generators(self):
        for name, title in GENERATORS:
            self.assertTrue(inspect.isgeneratorfunction(getattr(module(name), title)), title)
        for name, title, method in METHODS:
            self.assertTrue(inspect.isgeneratorfunction(getattr(getattr(module(name), title), method)), method)

    def test_every_module_has_no_more_than_a_file(self):
        for name in [*FUNCTIONS, "views", "steps", "errors"]:
            self.assertEqual(module(name).__name__, "landways." + name)

    def test_wishes_are_under_wish(self):
        for title in ("LandWish", "EveryLandWish"):
            self.assertTrue(issubclass(getattr(module("wishes"), title), Wish))

    def test_changes_are_read_by_the_class(self):
        read = vars(Change)["read"]
        self.assertIsInstance(read, classmethod)
        self.assertEqual(str(inspect.signature(Change.read)), "(text)")

    def test_attributes_are_set_when_an_object_is_made(self):
        for thing, names in [(ROW, "cells neighbours roads"), (start_state(ROW), "land hands standings"),
                             (custom_at(0), "untold joined sold kept ends row number"),
                             (History(ROW, custom_at(0)), "land custom deeds"),
                             (start_view(ROW, 2), "land cell own standings outside rights needed sleeping number"),
                             (Leave([0]), "kind cells others"), (Give([0]), "kind cells others"),
                             (view_table(ROW, custom_at(0), 2), "past cell counted rows land custom"),
                             (on_all_lands(custom_at(0)), "custom counted far loose bound"),
                             (start_joint(ROW, 1, 2), "first second land cells"),
                             (joint_table(ROW, custom_at(0), 1, 2), "past cells counted rows joints land custom"),
                             (twin_start(ROW, 1), "one other land cell own numbers"),
                             (TwinRun(ROW, custom_at(0), custom_at(1)), "land one other deeds first second"),
                             (twin_table(ROW, custom_at(0), custom_at(1), 2), "land one other cell counted rows"),
                             (compare_everywhere(custom_at(0), custom_at(0)), "one other counted measure"),
                             (Smudged(ROW, custom_at(0), [], []), "land custom deeds lost many"),
                             (Change("sold", "all"), "clause word"), (Pool([Change("sold", "all")]), "changes"),
                             (Wish(), "counted"), (LandWish(ROW, [1]), "land cells counted bars"),
                             (EveryLandWish(["far"]), "sorts counted"), (Bench(ROW, custom_at(0)), "history")]:
            for name in names.split():
                self.assertIn(name, vars(thing))
