"""The interface: names, arguments, where things are defined, and that generators are such."""

import importlib
import inspect
import unittest

from helpers import ROW
from landways.customs import custom_at
from landways.histories import History
from landways.states import start_state

FUNCTIONS = {
    "lands": "is_whole(thing, low, high); are_cells(many, thing, least); is_cell(land, thing); "
             "is_lot(land, thing, least); is_couple(land, thing)",
    "lots": "all_lots(cells)",
    "reaching": "reached(land, cell, passing); is_open(land, cell, passing); opens(land, cell, passing); "
                "open_way(land, cell, passing); least_lots(land, cell, passing, among); "
                "least_lot(land, cell, passing, among)",
    "likeness": "all_orders(many); renumbered(land, order); least_form(land); led_lot(order, lot); "
                "led_couple(order, couple); likenesses(one, other)",
    "landforms": "all_lands(cells); number_of_lands(cells)",
    "landtext": "land_text(land); parse_land(text)",
    "customs": "words(clause); custom_at(number); customs(); differences(one, other)",
    "counted": "counteds()",
    "customtext": "custom_text(custom); parse_custom(text)",
    "states": "start_state(land)",
    "deeds": "shape_fault(land, deed); deed_fault(state, deed); shaped(deed); moved_cells(state, deed); "
             "hands_after(state, deed); parted_couples(state, deed); joined_couples(state, deed); "
             "untold_couples(state, deed); is_counted(counted, state, deed)",
    "playing": "stages(custom, state, deed); after(custom, state, deed); settled_state(custom, state); "
               "is_settled_state(custom, state)",
    "histories": "",
    "reasons": "ledger(history); reason(history, a, b); shuttings(history)",
    "couplewise": "followed(history, a, b)",
    "moved": "carried_deed(order, deed); carried_state(order, state); carried_history(order, history); "
             "rehanded(history, pairs); plain_hands(history); trimmed(history)",
    "deedtext": "deed_text(deed); history_text(history); parse_deed(land, text); parse_history(text)",
}
CLASSES = {
    ("lands", "Land"): "__init__(self, cells, neighbours, roads); is_neighbour(self, one, other); "
                       "is_road(self, cell); around(self, cell); others(self, cell); __eq__(self, other)",
    ("customs", "Custom"): "__init__(self, untold, joined, sold, kept, ends); word(self, clause); "
                           "changed(self, clause, word); uses(self, word); __iter__(self); __eq__(self, other)",
    ("counted", "Counted"): "__init__(self, grants=True, untold=True, giving_up=False); is_within(self, other); "
                            "__eq__(self, other)",
    ("states", "State"): "__init__(self, land, hands, standings); hand(self, a); standing(self, a, b); "
                         "is_own(self, a, b); passes(self, a, b); is_open(self, a); own_cells(self, a); "
                         "passing(self, a); __eq__(self, other)",
    ("histories", "History"): "__init__(self, land, custom, deeds=()); states(self); state_at(self, many); "
                              "until(self, many); then(self, *deeds); first_shut(self, cell); "
                              "is_counted(self, counted); __len__(self); __iter__(self); __eq__(self, other)",
}
PROPERTIES = {("lands", "Land"): ["couples"], ("states", "State"): ["shut", "lots"], ("histories", "History"): ["state"]}
GENERATORS = [("likeness", "likenesses"), ("landforms", "all_lands"), ("customs", "customs"), ("counted", "counteds"),
              ("playing", "stages"), ("reasons", "ledger"), ("reasons", "shuttings")]


def module(name):
    return importlib.import_module("landways." + name)


def told(function):
    return function.__name__ + str(inspect.signature(function))


class Interface(unittest.TestCase):

    def test_functions(self):
        for name, listed in FUNCTIONS.items():
            for row in filter(None, listed.split("; ")):
                function = getattr(module(name), row.partition("(")[0])
                self.assertEqual(told(function), row)
                self.assertEqual(function.__module__, "landways." + name)

    def test_classes(self):
        for (name, title), listed in CLASSES.items():
            found = getattr(module(name), title)
            self.assertEqual(found.__module__, "landways." + name)
            for row in listed.split("; "):
                self.assertEqual(told(vars(found)[row.partition("(")[0]]), row)
            for word in PROPERTIES.get((name, title), []):
                self.assertIsInstance(vars(found)[word], property)

    def test_generators(self):
        for name, title in GENERATORS:
            self.assertTrue(inspect.isgeneratorfunction(getattr(module(name), title)), title)
        self.assertTrue(inspect.isgeneratorfunction(History.states))

    def test_attributes_are_set_when_an_object_is_made(self):
        for thing, names in [(ROW, "cells neighbours roads"), (start_state(ROW), "land hands standings"),
                             (custom_at(0), "untold joined sold kept ends row number"),
                             (History(ROW, custom_at(0)), "land custom deeds")]:
            for name in names.split():
                self.assertIn(name, vars(thing))
